/- Texts of this proof, one behind the other: what each says stands ahead of it. -/
import Derived.Shelf.SlSortCmp.WholeK
import Derived.Shelf.SlicesG.Cmp
import Derived.Shelf.Small.Bits
import Derived.Ground.SlsfProg
import Derived.Ground.SlgcProg
import Derived.Ground.NamesProg
import Derived.Test.YtpjnnbegimaaeabChecked
import Derived.Test.YtpjnnbegimaaeabM0
/- The sort, the comparison and the count of bits that the program calls: that their texts are those that the library speaks of; no condition. -/
namespace Go.Proofs
open Go.Shelf
def Try.sortIv_ren : Go.Shelf.Ren := ⟨fun | 6 => 23 | 15 => 33 | 14 => 32 | 28 => 43 | 29 => 44 | 20 => 35 | 21 => 36 | 22 => 37 | 23 => 38 | 24 => 39 | 25 => 40 | 26 => 41 | 27 => 42 | 46 => 45 | 47 => 46 | 48 => 47 | 49 => 48 | 50 => 49 | 57 => 50 | n => n, fun | 22 => 24 | 24 => 33 | 25 => 52 | 3 => 3 | 39 => 61 | 0 => 0 | 53 => 71 | 55 => 73 | 4 => 4 | 46 => 64 | 45 => 63 | 50 => 68 | 5 => 5 | 9 => 9 | 66 => 74 | 70 => 78 | 76 => 80 | 77 => 81 | n => n, fun | n => n⟩
theorem Try.sortIv : Go.Proofs.SlLaysF0.n6 Try.prog Try.sortIv_ren := {
  mixed := by kernel_rfl
  f6 := ⟨Try.f23.name, by decide, Try.func23.trans (congrArg some (by kernel_rfl))⟩
  f14 := ⟨Try.f32.name, by decide, Try.func32.trans (congrArg some (by kernel_rfl))⟩
  f15 := Try.func33.trans (congrArg some (by kernel_rfl))
  f20 := ⟨Try.f35.name, by decide, Try.func35.trans (congrArg some (by kernel_rfl))⟩
  f21 := ⟨Try.f36.name, by decide, Try.func36.trans (congrArg some (by kernel_rfl))⟩
  f22 := ⟨Try.f37.name, by decide, Try.func37.trans (congrArg some (by kernel_rfl))⟩
  f23 := ⟨Try.f38.name, by decide, Try.func38.trans (congrArg some (by kernel_rfl))⟩
  f24 := ⟨Try.f39.name, by decide, Try.func39.trans (congrArg some (by kernel_rfl))⟩
  f25 := ⟨Try.f40.name, by decide, Try.func40.trans (congrArg some (by kernel_rfl))⟩
  f26 := ⟨Try.f41.name, by decide, Try.func41.trans (congrArg some (by kernel_rfl))⟩
  f27 := ⟨Try.f42.name, by decide, Try.func42.trans (congrArg some (by kernel_rfl))⟩
  f28 := Try.func43.trans (congrArg some (by kernel_rfl))
  f29 := Try.func44.trans (congrArg some (by kernel_rfl))
  f46 := ⟨Try.f45.name, by decide, Try.func45.trans (congrArg some (by kernel_rfl))⟩
  f47 := Try.func46.trans (congrArg some (by kernel_rfl))
  f48 := Try.func47.trans (congrArg some (by kernel_rfl))
  f49 := ⟨Try.f48.name, by decide, Try.func48.trans (congrArg some (by kernel_rfl))⟩
  f50 := ⟨Try.f49.name, by decide, Try.func49.trans (congrArg some (by kernel_rfl))⟩
  f57 := ⟨Try.f50.name, by decide, Try.func50.trans (congrArg some (by kernel_rfl))⟩
  t0 := Try.underlying0
  a0 := Try.isAgg0
  z0 := Try.sizeOf0
  v0 := Try.zeroValue0
  t3 := Try.underlying3
  a3 := Try.isAgg3
  z3 := Try.sizeOf3
  v3 := Try.zeroValue3
  t4 := Try.underlying4
  a4 := Try.isAgg4
  z4 := Try.sizeOf4
  v4 := Try.zeroValue4
  t5 := Try.underlying5
  a5 := Try.isAgg5
  z5 := Try.sizeOf5
  v5 := Try.zeroValue5
  t9 := Try.underlying9
  a9 := Try.isAgg9
  z9 := Try.sizeOf9
  v9 := Try.zeroValue9
  t22 := Try.underlying24
  a22 := Try.isAgg24
  z22 := Try.sizeOf24
  v22 := Try.zeroValue24
  t25 := Try.underlying52
  a25 := Try.isAgg52
  z25 := Try.sizeOf52
  v25 := Try.zeroValue52
  t39 := Try.underlying61
  a39 := Try.isAgg61
  z39 := Try.sizeOf61
  v39 := Try.zeroValue61
  t45 := Try.underlying63
  a45 := Try.isAgg63
  z45 := Try.sizeOf63
  v45 := Try.zeroValue63
  t46 := Try.underlying64
  a46 := Try.isAgg64
  z46 := Try.sizeOf64
  v46 := Try.zeroValue64
  t50 := Try.underlying68
  a50 := Try.isAgg68
  z50 := Try.sizeOf68
  v50 := Try.zeroValue68
  t53 := Try.underlying71
  a53 := Try.isAgg71
  z53 := Try.sizeOf71
  v53 := Try.zeroValue71
  t55 := Try.underlying73
  a55 := Try.isAgg73
  z55 := Try.sizeOf73
  v55 := Try.zeroValue73
  t66 := Try.underlying74
  a66 := Try.isAgg74
  z66 := Try.sizeOf74
  v66 := Try.zeroValue74
  t70 := Try.underlying78
  a70 := Try.isAgg78
  z70 := Try.sizeOf78
  v70 := Try.zeroValue78
  t76 := Try.underlying80
  a76 := Try.isAgg80
  z76 := Try.sizeOf80
  v76 := Try.zeroValue80
  t77 := Try.underlying81
  a77 := Try.isAgg81
  z77 := Try.sizeOf81
  v77 := Try.zeroValue81 }
def Try.cmpInt_ren : Go.Shelf.Ren := ⟨fun | 5 => 25 | 7 => 34 | n => n, fun | 22 => 3 | 3 => 3 | 4 => 4 | n => n, fun | n => n⟩
theorem Try.cmpInt : Go.Proofs.SlLaysC2.n5 Try.prog Try.cmpInt_ren := {
  mixed := by kernel_rfl
  f5 := ⟨Try.f25.name, by decide, Try.func25.trans (congrArg some (by kernel_rfl))⟩
  f7 := ⟨Try.f34.name, by decide, Try.func34.trans (congrArg some (by kernel_rfl))⟩
  t3 := Try.underlying3
  a3 := Try.isAgg3
  z3 := Try.sizeOf3
  v3 := Try.zeroValue3
  t4 := Try.underlying4
  a4 := Try.isAgg4
  z4 := Try.sizeOf4
  v4 := Try.zeroValue4
  t22 := Try.underlying3
  a22 := Try.isAgg3
  z22 := Try.sizeOf3
  v22 := Try.zeroValue3 }
def Try.bitsLen2_ren : Go.Shelf.Ren := ⟨fun | 125 => 33 | 128 => 43 | 129 => 44 | n => n, fun | 46 => 61 | 3 => 3 | 51 => 71 | 53 => 73 | 4 => 4 | 5 => 5 | 9 => 9 | n => n, fun | n => n⟩
theorem Try.bitsLen2 : Go.Proofs.Lays.n125 Try.prog Try.bitsLen2_ren := {
  mixed := by kernel_rfl
  f125 := Try.func33.trans (congrArg some (by kernel_rfl))
  f128 := Try.func43.trans (congrArg some (by kernel_rfl))
  f129 := Try.func44.trans (congrArg some (by kernel_rfl))
  t3 := Try.underlying3
  a3 := Try.isAgg3
  z3 := Try.sizeOf3
  v3 := Try.zeroValue3
  t4 := Try.underlying4
  a4 := Try.isAgg4
  z4 := Try.sizeOf4
  v4 := Try.zeroValue4
  t5 := Try.underlying5
  a5 := Try.isAgg5
  z5 := Try.sizeOf5
  v5 := Try.zeroValue5
  t9 := Try.underlying9
  a9 := Try.isAgg9
  z9 := Try.sizeOf9
  v9 := Try.zeroValue9
  t46 := Try.underlying61
  a46 := Try.isAgg61
  z46 := Try.sizeOf61
  v46 := Try.zeroValue61
  t51 := Try.underlying71
  a51 := Try.isAgg71
  z51 := Try.sizeOf71
  v51 := Try.zeroValue71
  t53 := Try.underlying73
  a53 := Try.isAgg73
  z53 := Try.sizeOf73
  v53 := Try.zeroValue73 }
end Go.Proofs

/- The closure by which ranges are sorted; no condition. -/
namespace Go.Proofs.Ytpjnnbegimaaeab
open Go.Shelf Go.RowKit Go.Lib Go.Sort

set_option maxHeartbeats 1000000 in
theorem closure24 (x y : R2) (W : World) : Calls Try.prog 24 #[.agg #[.int .i64 x.1, .int .i64 x.2], .agg #[.int .i64 y.1, .int .i64 y.2]] W fun e w' => e = .returned (.int .i64 (Lib.compareInt x.1 y.1)) ∧ ∃ q os', w' = grow (W.drewN q) os' := by
  have hcon := fun W' => AnyG.cmp_Compare_int Try.cmpInt x.1 y.1 W'
  change ∀ W', Calls Try.prog 25 _ _ _ at hcon
  generalize Lib.compareInt x.1 y.1 = r at hcon ⊢
  go_enter Try.func24, Try.ntmps24
  go_wp2_with (go_at_call 25; refine (hcon _).mono ?_; rintro e w' ⟨rfl, rfl⟩)
  go_ret
  exact ⟨rfl, 0, _, by rw [alloc_eq_grow, alloc_eq_grow, grow_grow]; rfl⟩

theorem cmpLays24 (blk off size : Nat) (w : World) : CmpLays Try.prog 24 #[] encR 2 (fun x y => Lib.compareInt x.1 y.1) blk off size w :=
  fun _ _ _ _ x y => closure24 x y _

theorem ltLo (x y : Int × Int) : ltOf (fun x y : Int × Int => Lib.compareInt x.1 y.1) x y = decide (x.1 < y.1) := by
  unfold ltOf Lib.compareInt
  by_cases h1 : x.1 < y.1
  · simp [h1]
  · by_cases h2 : y.1 < x.1 <;> simp [h1, h2]

/-- By From is a strict weak order. -/
theorem swoLo : SWO (ltOf fun x y : Int × Int => Lib.compareInt x.1 y.1) where
  irrefl x := by rw [ltLo]; simp
  trans x y z h1 h2 := by rw [ltLo] at *; simp at *; omega
  ntrans x y z h1 h2 := by rw [ltLo] at *; simp at *; omega

theorem sort_row (blk off cap : Nat) (d : Array (Int × Int)) (w : World) (hH : HoldsK encR 2 w blk off d) (hblk : blk < w.heap.size) (hsz : d.size < 4611686018427387904) :
    Calls Try.prog 23 #[.slice (some ⟨blk, off, none⟩) d.size cap, .func (.func 24) #[] #[]] w fun e w' => e = .returned (.tuple #[]) ∧ ∃ d' n os, PermIn 0 d.size d d' ∧ SortedIn (ltOf fun x y : Int × Int => Lib.compareInt x.1 y.1) 0 d.size d' ∧ w' = sortWorldK encR 2 w blk off n d' os := by
  have eg : ∀ args w, (callFunc 24 args).run Try.prog w = .ok (.enter 24 args) w := enters_of Try.func24 (by kernel_rfl) rfl
  exact AnyQ.slices_SortFunc Try.sortIv 2 Try.isAgg33 Try.sizeOf33 encR (fun _ => rfl) (fun x v hv => by simp [encR] at hv; rcases hv with rfl | rfl <;> rfl) (fun x y => Lib.compareInt x.1 y.1) swoLo 24 #[] blk off cap d w eg (cmpLays24 blk off d.size w) hH hblk hsz
end Go.Proofs.Ytpjnnbegimaaeab

/- Ranges in a list of the call's own, sorted by From; condition: they fit into memory. -/
namespace Go.Proofs.Ytpjnnbegimaaeab
open Go.Shelf Go.RowKit Go.Lib Go.Sort

set_option maxRecDepth 100000 in
set_option maxHeartbeats 4000000 in
theorem ins_none (f : Value) (w : World) : Calls Try.prog 35 #[.slice none 0 0, .int .i64 0, .int .i64 0, f] w fun e w' => e = .returned (.tuple #[]) ∧ w' = w := by
  go_enter Try.func35, Try.ntmps35
  go_wp2_with fail
  go_loopg [8] 1 (fun gk i wr => gk = 1 ∧ i = .int .i64 1 ∧ wr = w)
  case atStart => exact ⟨rfl, rfl, rfl⟩
  case round =>
    obtain ⟨_, rfl, rfl⟩ := hrel
    go_wp2
    go_end0
    exact ⟨rfl, rfl⟩

set_option maxRecDepth 100000 in
set_option maxHeartbeats 4000000 in
theorem pdq_none (n : Int) (f : Value) (w : World) : Calls Try.prog 32 #[.slice none 0 0, .int .i64 0, .int .i64 0, .int .i64 n, f] w fun e w' => e = .returned (.tuple #[]) ∧ w' = w := by
  have K := hid (fun wq => ins_none f wq)
  go_enter Try.func32, Try.ntmps32
  go_wp2_with fail
  go_loopg [1, 2] 1 (fun gk a b wr => gk = 1 ∧ a = .int .i64 0 ∧ b = .int .i64 0 ∧ wr = w)
  case atStart => exact ⟨rfl, rfl, rfl, rfl⟩
  case round =>
    obtain ⟨_, rfl, rfl, rfl⟩ := hrel
    go_wp2_with fail
    refine (K.out _).mono ?_
    rintro e w1 ⟨rfl, rfl⟩
    go_wp2
    exact bodyPost_ret (results_none (fn := Try.f32) rfl _ Try.prog _) rfl ⟨rfl, rfl⟩

set_option maxRecDepth 100000 in
set_option maxHeartbeats 4000000 in
theorem sort_none (w : World) : Calls Try.prog 23 #[.slice none 0 0, .func (.func 24) #[] #[]] w fun e w' => e = .returned (.tuple #[]) ∧ w' = w := by
  have hlen := fun wq => Any.bits_Len Try.bitsLen2 0 wq (by omega) (by omega)
  change ∀ wq, Calls Try.prog 33 _ _ _ at hlen
  have K := hid (fun n wq => pdq_none n (.func (.func 24) #[] #[]) wq)
  have HLN := hid hlen
  clear hlen
  go_enter Try.func23, Try.ntmps23
  go_wp2_with fail
  refine (HLN.out _).mono ?_
  rintro e w1 ⟨rfl, rfl⟩
  go_wp2_with fail
  refine (K.out _ _).mono ?_
  rintro e w2 ⟨rfl, rfl⟩
  go_wp2
  go_end0
  exact ⟨rfl, rfl⟩

theorem touch_sort (w : World) (blk off m : Nat) (d : Array R2) (os : Array Obj) : Touch (fun k => k = blk) w (sortWorldK encR 2 w blk off m d os) := by
  refine ⟨rfl, rfl, rfl, ?_, fun k hk hn => ?_⟩
  · exact size_sortWorldK_c _ _ _ _ _ _ _ _
  · show ((w.heap.modify blk _) ++ os)[k]? = _
    rw [Array.getElem?_append_left (by simpa using hk), Array.getElem?_modify, if_neg (fun e => hn e.symm)]

theorem flatR_at (s : List R2) (j : Nat) (h : j < s.length * 2) : (flatR s)[j]? = some ((encR (s.toArray[j / 2]!))[j % 2]!) := by
  have hi : j / 2 < s.length := by omega
  have e : s.toArray[j / 2]! = s[j / 2] := by simp [hi]
  rw [e]
  rcases (show j % 2 = 0 ∨ j % 2 = 1 by omega) with h0 | h0
  · have := flatR_get0 s (j / 2) hi
    rw [show 2 * (j / 2) = j by omega] at this
    rw [this, h0]
    rfl
  · have := flatR_get1 s (j / 2) hi
    rw [show 2 * (j / 2) + 1 = j by omega] at this
    rw [this, h0]
    rfl

theorem holds_own {w : World} {base e g n cap : Nat} {s : List R2} (h : w.ownsRow base e 2 (.slice (some ⟨g, 0, none⟩) n cap) s.length (flatR s)) : HoldsK encR 2 w g 0 s.toArray := by
  intro j hj
  rw [size_flatK] at hj
  have hj' : j < s.length * 2 := by simpa using hj
  rw [get_flatK _ _ _ _ hj, Nat.zero_add]
  have hc := h.cells (g := g) rfl j _ (flatR_at s j hj')
  rw [add_g] at hc
  refine ⟨hc, ?_⟩
  rcases h.2 with ⟨hv, _⟩ | ⟨g', cap', cur, hv, _, hh, _⟩
  · simp at hv
  · simp at hv
    obtain ⟨rfl, _⟩ := hv
    simp [World.frozen?, hh]

theorem sort_any {W0 wr : World} {v : Value} {s : List R2} (h : Ow W0 wr 24 v s) (hb : s.length * 16 ≤ 140737488351232) :
    Calls Try.prog 23 #[v, .func (.func 24) #[] #[]] wr fun e w' => e = .returned (.tuple #[]) ∧ ∃ s', s'.Perm s ∧ s'.Pairwise (fun a b => a.1 ≤ b.1) ∧ (∃ a c, v = .slice a s'.length c ∧ Rg w' a s') ∧ Touch (fun _ => False) W0 w' := by
  rcases h.own.2 with ⟨rfl, h0⟩ | ⟨g, cap, cur, rfl, hg, hh, rest⟩
  · have hs : s = [] := List.eq_nil_of_length_eq_zero h0
    subst hs
    refine (sort_none wr).mono ?_
    rintro e w' ⟨rfl, rfl⟩
    exact ⟨rfl, [], .nil, .nil, ⟨none, 0, rfl, .inl rfl⟩, h.touch⟩
  · have hk := sort_row g 0 cap s.toArray wr (holds_own h.own) (lt_of_block hh) (by simp; omega)
    rw [show s.toArray.size = s.length by simp] at hk
    refine hk.mono ?_
    rintro e w' ⟨rfl, d', n, os, hp, hsd, rfl⟩
    have hsz : d'.size = s.length := by rw [hp.1]; simp
    refine ⟨rfl, d'.toList, ?_, ?_, ⟨some ⟨g, 0, none⟩, cap, by simp [hsz], .inr ⟨g, 0, rfl, ?_, fun i hi => ?_⟩⟩, ?_⟩
    · have := hp.2.2
      have h3 : (List.take s.length d'.toList).Perm s := by simpa using this
      rw [List.take_of_length_le (by simp; omega)] at h3
      exact h3
    · rw [List.pairwise_iff_getElem]
      intro i j hi hj hij
      have := hsd i j (Nat.zero_le _) hij (by simpa [hsz] using hj)
      rw [ltLo] at this
      simp only [Array.length_toList] at hi hj
      rw [getElem!_pos d' i hi, getElem!_pos d' j hj] at this
      simp only [decide_eq_false_iff_not] at this
      simp only [Array.getElem_toList]
      omega
    · exact Nat.lt_of_lt_of_le (lt_of_block hh) (touch_sort wr g 0 n d' os).size
    · simp only [Array.length_toList] at hi
      have hH := holdsK_sortWorldK encR 2 wr g 0 n s.toArray d' os (lt_of_block hh) (holds_own h.own) (by simp [hsz])
      have h1 := (hH.cell (i := i) (c := 0) hi (by decide)).1
      have h2 := (hH.cell (i := i) (c := 1) hi (by decide)).1
      rw [getElem!_pos d' i hi] at h1 h2
      exact ⟨h1, h2⟩
    · refine h.touch.trans (touch_sort wr g 0 n d' os) (fun i hi e => ?_)
      have := h.new g rfl
      omega
end Go.Proofs.Ytpjnnbegimaaeab

/- Of: any ranges, cut to the numbers that there are; conditions: the ranges fit into memory. -/
namespace Go.Proofs.Ytpjnnbegimaaeab
open Go.RowKit

def clip (x : R2) : R2 := (max x.1 0, min x.2 1114111)
def keeps (x : R2) : Bool := decide ((clip x).1 ≤ (clip x).2)
def withinL (l : List R2) : List R2 := (l.filter keeps).map clip
theorem within_yes (l : List R2) (k : Nat) (h : k < l.length) (hk : (clip l[k]).1 ≤ (clip l[k]).2) : withinL (l.take (k + 1)) = withinL (l.take k) ++ [clip l[k]] := by
  unfold withinL
  rw [List.take_succ_eq_append_getElem h, List.filter_append, List.map_append]
  simp [keeps, hk]
theorem within_no (l : List R2) (k : Nat) (h : k < l.length) (hk : ¬ (clip l[k]).1 ≤ (clip l[k]).2) : withinL (l.take (k + 1)) = withinL (l.take k) := by
  unfold withinL
  rw [List.take_succ_eq_append_getElem h, List.filter_append, List.map_append]
  simp [keeps, hk]
theorem within_len (l : List R2) (k : Nat) (h : k ≤ l.length) : (withinL (l.take k)).length ≤ k := by
  unfold withinL
  rw [List.length_map]
  have := List.length_filter_le keeps (l.take k)
  rw [List.length_take] at this
  omega
theorem within_in (l : List R2) : ∀ x ∈ withinL l, inB x := by
  intro x hx
  unfold withinL at hx
  simp only [List.mem_map, List.mem_filter, keeps, decide_eq_true_eq] at hx
  obtain ⟨y, ⟨_, h⟩, rfl⟩ := hx
  unfold clip at *
  unfold inB
  dsimp only at *
  omega

set_option maxRecDepth 100000 in
set_option maxHeartbeats 4000000 in
theorem of_any (a : Option Addr) (cap : Nat) (l : List R2) (w : World) (hl : Rg w a l) (hb : l.length * 16 ≤ 140737488351232) :
    Calls Try.prog 14 #[.slice a l.length cap] w fun e w' => ∃ v m, e = .returned v ∧ m.Perm (withinL l) ∧ m.Pairwise (fun a b => a.1 ≤ b.1) ∧ Ow w w' 25 v (joinedL m) := by
  obtain ⟨i0, hi33, hz0, hz1, hz2⟩ := info_parts info33
  have HL := hid hl
  clear hl
  go_enter Try.func14, Try.ntmps14
  go_wp2_with fail
  go_loopg [3, 8] l.length (fun gk v i wr => ∃ k : Nat, k + gk = l.length ∧ i = .int .i64 (k : Nat) ∧ Ow w wr 24 v (withinL (l.take k)))
  case atStart => exact ⟨0, by omega, rfl, ⟨by simpa [withinL, flatR] using World.ownsRow_nil _ _ _ _, by intro g h; simp [Value.ownBlock] at h, Touch.refl _ _⟩⟩
  case round =>
    obtain ⟨k, hk, rfl, how⟩ := hrel
    have OW := hid how
    have HLR := hid (HL.out.new how.touch)
    have hlen := within_len l k (by omega)
    obtain ⟨av, cv, hav⟩ := own_shape how.own
    subst hav
    clear how
    by_cases hlt : k < l.length
    · obtain ⟨b, o, ha, hbl, hcell⟩ : ∃ b o, a = some ⟨b, o, none⟩ ∧ b < wr.heap.size ∧ ∀ i (h : i < l.length), wr.cell? ⟨b, o + i * 2, none⟩ = some (.int .i64 (l[i]).1) ∧ wr.cell? ⟨b, o + i * 2 + 1, none⟩ = some (.int .i64 (l[i]).2) := by
        rcases HLR.out with h | h
        · rw [h] at hlt; simp at hlt
        · exact h
      subst ha
      obtain ⟨d0, d1⟩ := hcell k hlt
      obtain ⟨r, hr⟩ : ∃ r, r = l[k] := ⟨_, rfl⟩
      rw [← hr] at d0 d1
      have WY := hid (fun hk => within_yes l k hlt hk)
      have WN := hid (fun hk => within_no l k hlt hk)
      rw [← hr] at WY WN
      obtain ⟨x, y⟩ := r
      dsimp only at d0 d1
      clear hcell hr
      obtain ⟨s, hs⟩ : ∃ s, s = withinL (l.take k) := ⟨_, rfl⟩
      rw [← hs] at OW WY WN hlen ⊢
      clear hs
      obtain ⟨M, hM⟩ : ∃ M, M = s.length := ⟨_, rfl⟩
      rw [← hM] at OW ⊢
      have HM := hid hM
      have hMk : M ≤ k := by omega
      clear hM
      obtain ⟨rb, hrb⟩ : ∃ rb, rb = wr.heap.size := ⟨_, rfl⟩
      have OA := hid (OW.out.alloc (.cells #[.int .i64 x, .int .i64 y] 33))
      have RB := hid (show (wr.alloc (.cells #[.int .i64 x, .int .i64 y] 33)).heap[rb]? = some (.cells #[.int .i64 x, .int .i64 y] 33 (0, 0)) from by rw [hrb]; exact three_new _ _ _)
      go_wp2_with fail
      rw [← hrb]
      have hown : ∀ g, (Value.slice av M cv).ownBlock = some g → g ≠ rb := fun g e => by
        have := (OW.out.own.lt g e).2
        omega
      have hwrb : w.heap.size ≤ rb := by rw [hrb]; exact OW.out.touch.size
      have HOWN := hid hown
      clear hrb hown OW
      generalize wr.alloc (.cells #[.int .i64 x, .int .i64 y] 33) = wA at *
      refine (common_any x y 0 1114111 wA).mono ?_
      rintro e w1 ⟨rfl, tc⟩
      have OB := hid (OA.out.still tc)
      have RC := hid (show w1.heap[rb]? = some (.cells #[.int .i64 x, .int .i64 y] 33 (0, 0)) from (tc.block rb (lt_of_block RB.out) id).trans RB.out)
      have q0 := cell_two0 RC.out
      have q1 := cell_two1 RC.out
      have qf0 := free_two (i := 0) RC.out
      have qf1 := free_two (i := 1) RC.out
      clear tc d0 d1
      obtain ⟨cx, hcx⟩ : ∃ cx, cx = max x 0 := ⟨_, rfl⟩
      obtain ⟨cy, hcy⟩ : ∃ cy, cy = min y 1114111 := ⟨_, rfl⟩
      rw [← hcx, ← hcy]
      have HCX := hid hcx
      have HCY := hid hcy
      clear hcx hcy
      have RD := hid (two_set1 (x := .int .i64 cy) (two_set0 (x := .int .i64 cx) RC.out))
      have OC := hid (show Ow w ((w1.setCell ⟨rb, 0, none⟩ (.int .i64 cx)).setCell ⟨rb, 1, none⟩ (.int .i64 cy)) 24 (.slice av M cv) s from ⟨ownsRow_setCell_other (ownsRow_setCell_other OB.out.own (fun e => HOWN.out _ e rfl) _) (fun e => HOWN.out _ e rfl) _, OB.out.new, (OB.out.touch.setCell (p := ⟨rb, 0, none⟩) (fun h => by simp at h; omega) _).setCell (p := ⟨rb, 1, none⟩) (fun h => by simp at h; omega) _⟩)
      by_cases hcc : cx ≤ cy
      · go_upto_region 7 with fail
        generalize ((w1.setCell ⟨rb, 0, none⟩ (.int .i64 cx)).setCell ⟨rb, 1, none⟩ (.int .i64 cy)) = wD at *
        have z0 := cell_two0 RD.out
        have z1 := cell_two1 RD.out
        clear q0 q1 qf0 qf1
        go_wp2_with (at_builtin; refine wpList_append_own_at _ rfl _ _ 24 rfl 0 33 i0 (.agg #[.int .i64 0, .int .i64 0]) 2 16 Try.underlying24 hi33 hz0 hz1 hz2 rfl (by decide) _ _ _ rfl (OC.out.own.alloc _) ⟨wD.heap.size, 0, none⟩ 1 1 [.int .i64 cx, .int .i64 cy] rfl rfl (row_new wD [.int .i64 cx, .int .i64 cy] 33) (by intro u hu; simp at hu; rcases hu with rfl | rfl <;> rfl) (by unfold maxLen; omega) (by omega) (Nat.zero_le _) ?_)
        intro v' w4 hown hgrow _ hat
        have OE := hid (OC.out.more (x := (cx, cy)) hown hgrow hat)
        have HCC := hid hcc
        clear hown hgrow hat
        go_wp2
        go_roundg (gk - 1)
        case measure => omega
        case rel =>
          refine ⟨k + 1, by omega, by go_num, ?_⟩
          have := WY.out (by unfold clip; dsimp only; rw [← HCX.out, ← HCY.out]; exact HCC.out)
          rw [this]
          unfold clip
          dsimp only
          rw [← HCX.out, ← HCY.out]
          exact OE.out
      · go_wp2
        go_roundg (gk - 1)
        case measure => omega
        case rel =>
          refine ⟨k + 1, by omega, by go_num, ?_⟩
          have := WN.out (by unfold clip; dsimp only; rw [← HCX.out, ← HCY.out]; exact hcc)
          rw [this]
          exact OC.out
    · obtain rfl : k = l.length := by omega
      rw [List.take_length] at OW hlen ⊢
      obtain ⟨s, hs⟩ : ∃ s, s = withinL l := ⟨_, rfl⟩
      have HWI := hid (within_in l)
      rw [← hs] at OW hlen HWI ⊢
      have HSS := hid hs
      clear hs
      have K := hid (sort_any OW.out (by omega))
      go_wp2_with fail
      refine K.out.mono ?_
      rintro e w1 ⟨rfl, s', hp, hsd, ⟨a1, c1, hv, hrg⟩, tc⟩
      have hl1 := hp.length_eq
      have KJ := hid (joined_any a1 c1 s' w1 hrg (fun x hx => HWI.out x (hp.mem_iff.1 hx)) (by omega))
      have HP := hid hp
      have HSD := hid hsd
      have TC := hid tc
      simp only [Value.slice.injEq] at hv
      obtain ⟨rfl, h2, rfl⟩ := hv
      rw [← h2] at KJ
      clear hp hsd hrg tc K hl1 h2
      go_wp2_with fail
      refine KJ.out.mono ?_
      rintro e w2 ⟨v2, rfl, ow⟩
      have OW2 := hid ow
      obtain ⟨a2, c2, hav⟩ := own_shape ow.own
      subst hav
      clear ow KJ
      go_wp2
      go_ret
      exact ⟨_, s', rfl, HSS.out ▸ HP.out, HSD.out, ⟨OW2.out.own, fun g e => Nat.le_trans TC.out.size (OW2.out.new g e), TC.out.trans OW2.out.touch (fun _ _ e => e)⟩⟩
end Go.Proofs.Ytpjnnbegimaaeab
