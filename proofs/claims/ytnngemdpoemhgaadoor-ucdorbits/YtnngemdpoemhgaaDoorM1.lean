/- Texts of this proof, one behind the other: what each says stands ahead of it. -/
import Derived.Shelf.SlSortCmp.WholeK
import Derived.Shelf.SlicesG.Cmp
import Derived.Shelf.Small.Bits
import Derived.Ground.SlsfProg
import Derived.Ground.SlgcProg
import Derived.Ground.NamesProg
import Derived.Test.YtnngemdpoemhgaaDoorChecked
import Derived.Test.YtnngemdpoemhgaaDoorM0
/- The sort, the comparison and the count of bits that the program calls: that their texts are those that the library speaks of; no condition. -/
namespace Go.Proofs
open Go.Shelf
def Tryd.sortIv_ren : Go.Shelf.Ren := ⟨fun | 6 => 33 | 15 => 46 | 14 => 50 | 28 => 62 | 29 => 63 | 20 => 65 | 21 => 66 | 22 => 67 | 23 => 68 | 24 => 69 | 25 => 70 | 26 => 71 | 27 => 72 | 46 => 78 | 47 => 74 | 48 => 75 | 49 => 79 | 50 => 80 | 57 => 82 | n => n, fun | 22 => 26 | 24 => 33 | 25 => 62 | 3 => 3 | 39 => 73 | 0 => 0 | 53 => 92 | 55 => 94 | 4 => 4 | 46 => 85 | 45 => 84 | 50 => 89 | 5 => 5 | 9 => 9 | 66 => 101 | 70 => 105 | 76 => 109 | 77 => 110 | n => n, fun | n => n⟩
theorem Tryd.sortIv : Go.Proofs.SlLaysF0.n6 Tryd.prog Tryd.sortIv_ren := {
  mixed := by kernel_rfl
  f6 := ⟨Tryd.f33.name, by decide, Tryd.func33.trans (congrArg some (by kernel_rfl))⟩
  f14 := ⟨Tryd.f50.name, by decide, Tryd.func50.trans (congrArg some (by kernel_rfl))⟩
  f15 := Tryd.func46.trans (congrArg some (by kernel_rfl))
  f20 := ⟨Tryd.f65.name, by decide, Tryd.func65.trans (congrArg some (by kernel_rfl))⟩
  f21 := ⟨Tryd.f66.name, by decide, Tryd.func66.trans (congrArg some (by kernel_rfl))⟩
  f22 := ⟨Tryd.f67.name, by decide, Tryd.func67.trans (congrArg some (by kernel_rfl))⟩
  f23 := ⟨Tryd.f68.name, by decide, Tryd.func68.trans (congrArg some (by kernel_rfl))⟩
  f24 := ⟨Tryd.f69.name, by decide, Tryd.func69.trans (congrArg some (by kernel_rfl))⟩
  f25 := ⟨Tryd.f70.name, by decide, Tryd.func70.trans (congrArg some (by kernel_rfl))⟩
  f26 := ⟨Tryd.f71.name, by decide, Tryd.func71.trans (congrArg some (by kernel_rfl))⟩
  f27 := ⟨Tryd.f72.name, by decide, Tryd.func72.trans (congrArg some (by kernel_rfl))⟩
  f28 := Tryd.func62.trans (congrArg some (by kernel_rfl))
  f29 := Tryd.func63.trans (congrArg some (by kernel_rfl))
  f46 := ⟨Tryd.f78.name, by decide, Tryd.func78.trans (congrArg some (by kernel_rfl))⟩
  f47 := Tryd.func74.trans (congrArg some (by kernel_rfl))
  f48 := Tryd.func75.trans (congrArg some (by kernel_rfl))
  f49 := ⟨Tryd.f79.name, by decide, Tryd.func79.trans (congrArg some (by kernel_rfl))⟩
  f50 := ⟨Tryd.f80.name, by decide, Tryd.func80.trans (congrArg some (by kernel_rfl))⟩
  f57 := ⟨Tryd.f82.name, by decide, Tryd.func82.trans (congrArg some (by kernel_rfl))⟩
  t0 := Tryd.underlying0
  a0 := Tryd.isAgg0
  z0 := Tryd.sizeOf0
  v0 := Tryd.zeroValue0
  t3 := Tryd.underlying3
  a3 := Tryd.isAgg3
  z3 := Tryd.sizeOf3
  v3 := Tryd.zeroValue3
  t4 := Tryd.underlying4
  a4 := Tryd.isAgg4
  z4 := Tryd.sizeOf4
  v4 := Tryd.zeroValue4
  t5 := Tryd.underlying5
  a5 := Tryd.isAgg5
  z5 := Tryd.sizeOf5
  v5 := Tryd.zeroValue5
  t9 := Tryd.underlying9
  a9 := Tryd.isAgg9
  z9 := Tryd.sizeOf9
  v9 := Tryd.zeroValue9
  t22 := Tryd.underlying26
  a22 := Tryd.isAgg26
  z22 := Tryd.sizeOf26
  v22 := Tryd.zeroValue26
  t25 := Tryd.underlying62
  a25 := Tryd.isAgg62
  z25 := Tryd.sizeOf62
  v25 := Tryd.zeroValue62
  t39 := Tryd.underlying73
  a39 := Tryd.isAgg73
  z39 := Tryd.sizeOf73
  v39 := Tryd.zeroValue73
  t45 := Tryd.underlying84
  a45 := Tryd.isAgg84
  z45 := Tryd.sizeOf84
  v45 := Tryd.zeroValue84
  t46 := Tryd.underlying85
  a46 := Tryd.isAgg85
  z46 := Tryd.sizeOf85
  v46 := Tryd.zeroValue85
  t50 := Tryd.underlying89
  a50 := Tryd.isAgg89
  z50 := Tryd.sizeOf89
  v50 := Tryd.zeroValue89
  t53 := Tryd.underlying92
  a53 := Tryd.isAgg92
  z53 := Tryd.sizeOf92
  v53 := Tryd.zeroValue92
  t55 := Tryd.underlying94
  a55 := Tryd.isAgg94
  z55 := Tryd.sizeOf94
  v55 := Tryd.zeroValue94
  t66 := Tryd.underlying101
  a66 := Tryd.isAgg101
  z66 := Tryd.sizeOf101
  v66 := Tryd.zeroValue101
  t70 := Tryd.underlying105
  a70 := Tryd.isAgg105
  z70 := Tryd.sizeOf105
  v70 := Tryd.zeroValue105
  t76 := Tryd.underlying109
  a76 := Tryd.isAgg109
  z76 := Tryd.sizeOf109
  v76 := Tryd.zeroValue109
  t77 := Tryd.underlying110
  a77 := Tryd.isAgg110
  z77 := Tryd.sizeOf110
  v77 := Tryd.zeroValue110 }
def Tryd.cmpInt_ren : Go.Shelf.Ren := ⟨fun | 5 => 35 | 7 => 51 | n => n, fun | 22 => 3 | 3 => 3 | 4 => 4 | n => n, fun | n => n⟩
theorem Tryd.cmpInt : Go.Proofs.SlLaysC2.n5 Tryd.prog Tryd.cmpInt_ren := {
  mixed := by kernel_rfl
  f5 := ⟨Tryd.f35.name, by decide, Tryd.func35.trans (congrArg some (by kernel_rfl))⟩
  f7 := ⟨Tryd.f51.name, by decide, Tryd.func51.trans (congrArg some (by kernel_rfl))⟩
  t3 := Tryd.underlying3
  a3 := Tryd.isAgg3
  z3 := Tryd.sizeOf3
  v3 := Tryd.zeroValue3
  t4 := Tryd.underlying4
  a4 := Tryd.isAgg4
  z4 := Tryd.sizeOf4
  v4 := Tryd.zeroValue4
  t22 := Tryd.underlying3
  a22 := Tryd.isAgg3
  z22 := Tryd.sizeOf3
  v22 := Tryd.zeroValue3 }
def Tryd.bitsLen2_ren : Go.Shelf.Ren := ⟨fun | 125 => 46 | 128 => 62 | 129 => 63 | n => n, fun | 46 => 73 | 3 => 3 | 51 => 92 | 53 => 94 | 4 => 4 | 5 => 5 | 9 => 9 | n => n, fun | n => n⟩
theorem Tryd.bitsLen2 : Go.Proofs.Lays.n125 Tryd.prog Tryd.bitsLen2_ren := {
  mixed := by kernel_rfl
  f125 := Tryd.func46.trans (congrArg some (by kernel_rfl))
  f128 := Tryd.func62.trans (congrArg some (by kernel_rfl))
  f129 := Tryd.func63.trans (congrArg some (by kernel_rfl))
  t3 := Tryd.underlying3
  a3 := Tryd.isAgg3
  z3 := Tryd.sizeOf3
  v3 := Tryd.zeroValue3
  t4 := Tryd.underlying4
  a4 := Tryd.isAgg4
  z4 := Tryd.sizeOf4
  v4 := Tryd.zeroValue4
  t5 := Tryd.underlying5
  a5 := Tryd.isAgg5
  z5 := Tryd.sizeOf5
  v5 := Tryd.zeroValue5
  t9 := Tryd.underlying9
  a9 := Tryd.isAgg9
  z9 := Tryd.sizeOf9
  v9 := Tryd.zeroValue9
  t46 := Tryd.underlying73
  a46 := Tryd.isAgg73
  z46 := Tryd.sizeOf73
  v46 := Tryd.zeroValue73
  t51 := Tryd.underlying92
  a51 := Tryd.isAgg92
  z51 := Tryd.sizeOf92
  v51 := Tryd.zeroValue92
  t53 := Tryd.underlying94
  a53 := Tryd.isAgg94
  z53 := Tryd.sizeOf94
  v53 := Tryd.zeroValue94 }
end Go.Proofs

/- The closure by which ranges are sorted; no condition. -/
namespace Go.Proofs.YtnngemdpoemhgaaDoor
open Go.Shelf Go.RowKit Go.Lib Go.Sort

set_option maxHeartbeats 1000000 in
theorem closure24 (x y : R2) (W : World) : Calls Tryd.prog 34 #[.agg #[.int .i64 x.1, .int .i64 x.2], .agg #[.int .i64 y.1, .int .i64 y.2]] W fun e w' => e = .returned (.int .i64 (Lib.compareInt x.1 y.1)) ∧ ∃ q os', w' = grow (W.drewN q) os' := by
  have hcon := fun W' => AnyG.cmp_Compare_int Tryd.cmpInt x.1 y.1 W'
  change ∀ W', Calls Tryd.prog 35 _ _ _ at hcon
  generalize Lib.compareInt x.1 y.1 = r at hcon ⊢
  go_enter Tryd.func34, Tryd.ntmps34
  go_wp2_with (go_at_call 35; refine (hcon _).mono ?_; rintro e w' ⟨rfl, rfl⟩)
  go_ret
  exact ⟨rfl, 0, _, by rw [alloc_eq_grow, alloc_eq_grow, grow_grow]; rfl⟩

theorem cmpLays24 (blk off size : Nat) (w : World) : CmpLays Tryd.prog 34 #[] encR 2 (fun x y => Lib.compareInt x.1 y.1) blk off size w :=
  fun _ _ _ _ x y => closure24 x y _

theorem ltLo (x y : Int × Int) : ltOf (fun x y : Int × Int => Lib.compareInt x.1 y.1) x y = decide (x.1 < y.1) := by
  unfold ltOf Lib.compareInt
  by_cases h1 : x.1 < y.1
  · simp [h1]
  · by_cases h2 : y.1 < x.1 <;> simp [h1, h2]

/-- By From is a strict weak order. -/
theorem swoLo : SWO (ltOf fun x y : Int × Int => Lib.compareInt x.1 y.1) where
  irrefl x := by rw [ltLo]; simp
  trans x y z h1 h2 := by rw [ltLo] at *; simp at *; omega
  ntrans x y z h1 h2 := by rw [ltLo] at *; simp at *; omega

theorem sort_row (blk off cap : Nat) (d : Array (Int × Int)) (w : World) (hH : HoldsK encR 2 w blk off d) (hblk : blk < w.heap.size) (hsz : d.size < 4611686018427387904) :
    Calls Tryd.prog 33 #[.slice (some ⟨blk, off, none⟩) d.size cap, .func (.func 34) #[] #[]] w fun e w' => e = .returned (.tuple #[]) ∧ ∃ d' n os, PermIn 0 d.size d d' ∧ SortedIn (ltOf fun x y : Int × Int => Lib.compareInt x.1 y.1) 0 d.size d' ∧ w' = sortWorldK encR 2 w blk off n d' os := by
  have eg : ∀ args w, (callFunc 34 args).run Tryd.prog w = .ok (.enter 34 args) w := enters_of Tryd.func34 (by kernel_rfl) rfl
  exact AnyQ.slices_SortFunc Tryd.sortIv 2 Tryd.isAgg33 Tryd.sizeOf33 encR (fun _ => rfl) (fun x v hv => by simp [encR] at hv; rcases hv with rfl | rfl <;> rfl) (fun x y => Lib.compareInt x.1 y.1) swoLo 34 #[] blk off cap d w eg (cmpLays24 blk off d.size w) hH hblk hsz
end Go.Proofs.YtnngemdpoemhgaaDoor

/- Ranges in a list of the call's own, sorted by From; condition: they fit into memory. -/
namespace Go.Proofs.YtnngemdpoemhgaaDoor
open Go.Shelf Go.RowKit Go.Lib Go.Sort

set_option maxRecDepth 100000 in
set_option maxHeartbeats 4000000 in
theorem ins_none (f : Value) (w : World) : Calls Tryd.prog 65 #[.slice none 0 0, .int .i64 0, .int .i64 0, f] w fun e w' => e = .returned (.tuple #[]) ∧ w' = w := by
  go_enter Tryd.func65, Tryd.ntmps65
  go_wp2_with fail
  go_loopg [8] 1 (fun gk i wr => gk = 1 ∧ i = .int .i64 1 ∧ wr = w)
  case atStart => exact ⟨rfl, rfl, rfl⟩
  case round =>
    obtain ⟨_, rfl, rfl⟩ := hrel
    go_wp2
    go_end0
    exact ⟨rfl, rfl⟩

set_option maxRecDepth 100000 in
set_option maxHeartbeats 4000000 in
theorem pdq_none (n : Int) (f : Value) (w : World) : Calls Tryd.prog 50 #[.slice none 0 0, .int .i64 0, .int .i64 0, .int .i64 n, f] w fun e w' => e = .returned (.tuple #[]) ∧ w' = w := by
  have K := hid (fun wq => ins_none f wq)
  go_enter Tryd.func50, Tryd.ntmps50
  go_wp2_with fail
  go_loopg [1, 2] 1 (fun gk a b wr => gk = 1 ∧ a = .int .i64 0 ∧ b = .int .i64 0 ∧ wr = w)
  case atStart => exact ⟨rfl, rfl, rfl, rfl⟩
  case round =>
    obtain ⟨_, rfl, rfl, rfl⟩ := hrel
    go_wp2_with fail
    refine (K.out _).mono ?_
    rintro e w1 ⟨rfl, rfl⟩
    go_wp2
    exact bodyPost_ret (results_none (fn := Tryd.f50) rfl _ Tryd.prog _) rfl ⟨rfl, rfl⟩

set_option maxRecDepth 100000 in
set_option maxHeartbeats 4000000 in
theorem sort_none (w : World) : Calls Tryd.prog 33 #[.slice none 0 0, .func (.func 34) #[] #[]] w fun e w' => e = .returned (.tuple #[]) ∧ w' = w := by
  have hlen := fun wq => Any.bits_Len Tryd.bitsLen2 0 wq (by omega) (by omega)
  change ∀ wq, Calls Tryd.prog 46 _ _ _ at hlen
  have K := hid (fun n wq => pdq_none n (.func (.func 34) #[] #[]) wq)
  have HLN := hid hlen
  clear hlen
  go_enter Tryd.func33, Tryd.ntmps33
  go_wp2_with fail
  refine (HLN.out _).mono ?_
  rintro e w1 ⟨rfl, rfl⟩
  go_wp2_with fail
  refine (K.out _ _).mono ?_
  rintro e w2 ⟨rfl, rfl⟩
  go_wp2
  go_end0
  exact ⟨rfl, rfl⟩

theorem touch_sort (w : World) (blk off m : Nat) (d : Array R2) (os : Array Obj) : Touch (fun k => k = blk) w (sortWorldK encR 2 w blk off m d os) := by
  refine ⟨rfl, rfl, rfl, ?_, fun k hk hn => ?_⟩
  · exact size_sortWorldK_c _ _ _ _ _ _ _ _
  · show ((w.heap.modify blk _) ++ os)[k]? = _
    rw [Array.getElem?_append_left (by simpa using hk), Array.getElem?_modify, if_neg (fun e => hn e.symm)]

theorem flatR_at (s : List R2) (j : Nat) (h : j < s.length * 2) : (flatR s)[j]? = some ((encR (s.toArray[j / 2]!))[j % 2]!) := by
  have hi : j / 2 < s.length := by omega
  have e : s.toArray[j / 2]! = s[j / 2] := by simp [hi]
  rw [e]
  rcases (show j % 2 = 0 ∨ j % 2 = 1 by omega) with h0 | h0
  · have := flatR_get0 s (j / 2) hi
    rw [show 2 * (j / 2) = j by omega] at this
    rw [this, h0]
    rfl
  · have := flatR_get1 s (j / 2) hi
    rw [show 2 * (j / 2) + 1 = j by omega] at this
    rw [this, h0]
    rfl

theorem holds_own {w : World} {base e g n cap : Nat} {s : List R2} (h : w.ownsRow base e 2 (.slice (some ⟨g, 0, none⟩) n cap) s.length (flatR s)) : HoldsK encR 2 w g 0 s.toArray := by
  intro j hj
  rw [size_flatK] at hj
  have hj' : j < s.length * 2 := by simpa using hj
  rw [get_flatK _ _ _ _ hj, Nat.zero_add]
  have hc := h.cells (g := g) rfl j _ (flatR_at s j hj')
  rw [add_g] at hc
  refine ⟨hc, ?_⟩
  rcases h.2 with ⟨hv, _⟩ | ⟨g', cap', cur, hv, _, hh, _⟩
  · simp at hv
  · simp at hv
    obtain ⟨rfl, _⟩ := hv
    simp [World.frozen?, hh]

theorem sort_any {W0 wr : World} {v : Value} {s : List R2} (h : Ow W0 wr 26 v s) (hb : s.length * 16 ≤ 140737488351232) :
    Calls Tryd.prog 33 #[v, .func (.func 34) #[] #[]] wr fun e w' => e = .returned (.tuple #[]) ∧ ∃ s', s'.Perm s ∧ s'.Pairwise (fun a b => a.1 ≤ b.1) ∧ (∃ a c, v = .slice a s'.length c ∧ Rg w' a s') ∧ Touch (fun _ => False) W0 w' := by
  rcases h.own.2 with ⟨rfl, h0⟩ | ⟨g, cap, cur, rfl, hg, hh, rest⟩
  · have hs : s = [] := List.eq_nil_of_length_eq_zero h0
    subst hs
    refine (sort_none wr).mono ?_
    rintro e w' ⟨rfl, rfl⟩
    exact ⟨rfl, [], .nil, .nil, ⟨none, 0, rfl, .inl rfl⟩, h.touch⟩
  · have hk := sort_row g 0 cap s.toArray wr (holds_own h.own) (lt_of_block hh) (by simp; omega)
    rw [show s.toArray.size = s.length by simp] at hk
    refine hk.mono ?_
    rintro e w' ⟨rfl, d', n, os, hp, hsd, rfl⟩
    have hsz : d'.size = s.length := by rw [hp.1]; simp
    refine ⟨rfl, d'.toList, ?_, ?_, ⟨some ⟨g, 0, none⟩, cap, by simp [hsz], .inr ⟨g, 0, rfl, ?_, fun i hi => ?_⟩⟩, ?_⟩
    · have := hp.2.2
      have h3 : (List.take s.length d'.toList).Perm s := by simpa using this
      rw [List.take_of_length_le (by simp; omega)] at h3
      exact h3
    · rw [List.pairwise_iff_getElem]
      intro i j hi hj hij
      have := hsd i j (Nat.zero_le _) hij (by simpa [hsz] using hj)
      rw [ltLo] at this
      simp only [Array.length_toList] at hi hj
      rw [getElem!_pos d' i hi, getElem!_pos d' j hj] at this
      simp only [decide_eq_false_iff_not] at this
      simp only [Array.getElem_toList]
      omega
    · exact Nat.lt_of_lt_of_le (lt_of_block hh) (touch_sort wr g 0 n d' os).size
    · simp only [Array.length_toList] at hi
      have hH := holdsK_sortWorldK encR 2 wr g 0 n s.toArray d' os (lt_of_block hh) (holds_own h.own) (by simp [hsz])
      have h1 := (hH.cell (i := i) (c := 0) hi (by decide)).1
      have h2 := (hH.cell (i := i) (c := 1) hi (by decide)).1
      rw [getElem!_pos d' i hi] at h1 h2
      exact ⟨h1, h2⟩
    · refine h.touch.trans (touch_sort wr g 0 n d' os) (fun i hi e => ?_)
      have := h.new g rfl
      omega
end Go.Proofs.YtnngemdpoemhgaaDoor

/- Of: any ranges, cut to the numbers that there are; conditions: the ranges fit into memory. -/
namespace Go.Proofs.YtnngemdpoemhgaaDoor
open Go.RowKit

def clip (x : R2) : R2 := (max x.1 0, min x.2 1114111)
def keeps (x : R2) : Bool := decide ((clip x).1 ≤ (clip x).2)
def withinL (l : List R2) : List R2 := (l.filter keeps).map clip
theorem within_yes (l : List R2) (k : Nat) (h : k < l.length) (hk : (clip l[k]).1 ≤ (clip l[k]).2) : withinL (l.take (k + 1)) = withinL (l.take k) ++ [clip l[k]] := by
  unfold withinL
  rw [List.take_succ_eq_append_getElem h, List.filter_append, List.map_append]
  simp [keeps, hk]
theorem within_no (l : List R2) (k : Nat) (h : k < l.length) (hk : ¬ (clip l[k]).1 ≤ (clip l[k]).2) : withinL (l.take (k + 1)) = withinL (l.take k) := by
  unfold withinL
  rw [List.take_succ_eq_append_getElem h, List.filter_append, List.map_append]
  simp [keeps, hk]
theorem within_len (l : List R2) (k : Nat) (h : k ≤ l.length) : (withinL (l.take k)).length ≤ k := by
  unfold withinL
  rw [List.length_map]
  have := List.length_filter_le keeps (l.take k)
  rw [List.length_take] at this
  omega
theorem within_in (l : List R2) : ∀ x ∈ withinL l, inB x := by
  intro x hx
  unfold withinL at hx
  simp only [List.mem_map, List.mem_filter, keeps, decide_eq_true_eq] at hx
  obtain ⟨y, ⟨_, h⟩, rfl⟩ := hx
  unfold clip at *
  unfold inB
  dsimp only at *
  omega

set_option maxRecDepth 100000 in
set_option maxHeartbeats 4000000 in
theorem of_any (a : Option Addr) (cap : Nat) (l : List R2) (w : World) (hl : Rg w a l) (hb : l.length * 16 ≤ 140737488351232) :
    Calls Tryd.prog 14 #[.slice a l.length cap] w fun e w' => ∃ v m, e = .returned v ∧ m.Perm (withinL l) ∧ m.Pairwise (fun a b => a.1 ≤ b.1) ∧ Ow w w' 27 v (joinedL m) := by
  obtain ⟨i0, hi33, hz0, hz1, hz2⟩ := info_parts info33
  have HL := hid hl
  clear hl
  go_enter Tryd.func14, Tryd.ntmps14
  go_wp2_with fail
  go_loopg [3, 8] l.length (fun gk v i wr => ∃ k : Nat, k + gk = l.length ∧ i = .int .i64 (k : Nat) ∧ Ow w wr 26 v (withinL (l.take k)))
  case atStart => exact ⟨0, by omega, rfl, ⟨by simpa [withinL, flatR] using World.ownsRow_nil _ _ _ _, by intro g h; simp [Value.ownBlock] at h, Touch.refl _ _⟩⟩
  case round =>
    obtain ⟨k, hk, rfl, how⟩ := hrel
    have OW := hid how
    have HLR := hid (HL.out.new how.touch)
    have hlen := within_len l k (by omega)
    obtain ⟨av, cv, hav⟩ := own_shape how.own
    subst hav
    clear how
    by_cases hlt : k < l.length
    · obtain ⟨b, o, ha, hbl, hcell⟩ : ∃ b o, a = some ⟨b, o, none⟩ ∧ b < wr.heap.size ∧ ∀ i (h : i < l.length), wr.cell? ⟨b, o + i * 2, none⟩ = some (.int .i64 (l[i]).1) ∧ wr.cell? ⟨b, o + i * 2 + 1, none⟩ = some (.int .i64 (l[i]).2) := by
        rcases HLR.out with h | h
        · rw [h] at hlt; simp at hlt
        · exact h
      subst ha
      obtain ⟨d0, d1⟩ := hcell k hlt
      obtain ⟨r, hr⟩ : ∃ r, r = l[k] := ⟨_, rfl⟩
      rw [← hr] at d0 d1
      have WY := hid (fun hk => within_yes l k hlt hk)
      have WN := hid (fun hk => within_no l k hlt hk)
      rw [← hr] at WY WN
      obtain ⟨x, y⟩ := r
      dsimp only at d0 d1
      clear hcell hr
      obtain ⟨s, hs⟩ : ∃ s, s = withinL (l.take k) := ⟨_, rfl⟩
      rw [← hs] at OW WY WN hlen ⊢
      clear hs
      obtain ⟨M, hM⟩ : ∃ M, M = s.length := ⟨_, rfl⟩
      rw [← hM] at OW ⊢
      have HM := hid hM
      have hMk : M ≤ k := by omega
      clear hM
      obtain ⟨rb, hrb⟩ : ∃ rb, rb = wr.heap.size := ⟨_, rfl⟩
      have OA := hid (OW.out.alloc (.cells #[.int .i64 x, .int .i64 y] 33))
      have RB := hid (show (wr.alloc (.cells #[.int .i64 x, .int .i64 y] 33)).heap[rb]? = some (.cells #[.int .i64 x, .int .i64 y] 33 (0, 0)) from by rw [hrb]; exact three_new _ _ _)
      go_wp2_with fail
      rw [← hrb]
      have hown : ∀ g, (Value.slice av M cv).ownBlock = some g → g ≠ rb := fun g e => by
        have := (OW.out.own.lt g e).2
        omega
      have hwrb : w.heap.size ≤ rb := by rw [hrb]; exact OW.out.touch.size
      have HOWN := hid hown
      clear hrb hown OW
      generalize wr.alloc (.cells #[.int .i64 x, .int .i64 y] 33) = wA at *
      refine (common_any x y 0 1114111 wA).mono ?_
      rintro e w1 ⟨rfl, tc⟩
      have OB := hid (OA.out.still tc)
      have RC := hid (show w1.heap[rb]? = some (.cells #[.int .i64 x, .int .i64 y] 33 (0, 0)) from (tc.block rb (lt_of_block RB.out) id).trans RB.out)
      have q0 := cell_two0 RC.out
      have q1 := cell_two1 RC.out
      have qf0 := free_two (i := 0) RC.out
      have qf1 := free_two (i := 1) RC.out
      clear tc d0 d1
      obtain ⟨cx, hcx⟩ : ∃ cx, cx = max x 0 := ⟨_, rfl⟩
      obtain ⟨cy, hcy⟩ : ∃ cy, cy = min y 1114111 := ⟨_, rfl⟩
      rw [← hcx, ← hcy]
      have HCX := hid hcx
      have HCY := hid hcy
      clear hcx hcy
      have RD := hid (two_set1 (x := .int .i64 cy) (two_set0 (x := .int .i64 cx) RC.out))
      have OC := hid (show Ow w ((w1.setCell ⟨rb, 0, none⟩ (.int .i64 cx)).setCell ⟨rb, 1, none⟩ (.int .i64 cy)) 26 (.slice av M cv) s from ⟨ownsRow_setCell_other (ownsRow_setCell_other OB.out.own (fun e => HOWN.out _ e rfl) _) (fun e => HOWN.out _ e rfl) _, OB.out.new, (OB.out.touch.setCell (p := ⟨rb, 0, none⟩) (fun h => by simp at h; omega) _).setCell (p := ⟨rb, 1, none⟩) (fun h => by simp at h; omega) _⟩)
      by_cases hcc : cx ≤ cy
      · go_upto_region 7 with fail
        generalize ((w1.setCell ⟨rb, 0, none⟩ (.int .i64 cx)).setCell ⟨rb, 1, none⟩ (.int .i64 cy)) = wD at *
        have z0 := cell_two0 RD.out
        have z1 := cell_two1 RD.out
        clear q0 q1 qf0 qf1
        go_wp2_with (at_builtin; refine wpList_append_own_at _ rfl _ _ 26 rfl 0 33 i0 (.agg #[.int .i64 0, .int .i64 0]) 2 16 Tryd.underlying26 hi33 hz0 hz1 hz2 rfl (by decide) _ _ _ rfl (OC.out.own.alloc _) ⟨wD.heap.size, 0, none⟩ 1 1 [.int .i64 cx, .int .i64 cy] rfl rfl (row_new wD [.int .i64 cx, .int .i64 cy] 33) (by intro u hu; simp at hu; rcases hu with rfl | rfl <;> rfl) (by unfold maxLen; omega) (by omega) (Nat.zero_le _) ?_)
        intro v' w4 hown hgrow _ hat
        have OE := hid (OC.out.more (x := (cx, cy)) hown hgrow hat)
        have HCC := hid hcc
        clear hown hgrow hat
        go_wp2
        go_roundg (gk - 1)
        case measure => omega
        case rel =>
          refine ⟨k + 1, by omega, by go_num, ?_⟩
          have := WY.out (by unfold clip; dsimp only; rw [← HCX.out, ← HCY.out]; exact HCC.out)
          rw [this]
          unfold clip
          dsimp only
          rw [← HCX.out, ← HCY.out]
          exact OE.out
      · go_wp2
        go_roundg (gk - 1)
        case measure => omega
        case rel =>
          refine ⟨k + 1, by omega, by go_num, ?_⟩
          have := WN.out (by unfold clip; dsimp only; rw [← HCX.out, ← HCY.out]; exact hcc)
          rw [this]
          exact OC.out
    · obtain rfl : k = l.length := by omega
      rw [List.take_length] at OW hlen ⊢
      obtain ⟨s, hs⟩ : ∃ s, s = withinL l := ⟨_, rfl⟩
      have HWI := hid (within_in l)
      rw [← hs] at OW hlen HWI ⊢
      have HSS := hid hs
      clear hs
      have K := hid (sort_any OW.out (by omega))
      go_wp2_with fail
      refine K.out.mono ?_
      rintro e w1 ⟨rfl, s', hp, hsd, ⟨a1, c1, hv, hrg⟩, tc⟩
      have hl1 := hp.length_eq
      have KJ := hid (joined_any a1 c1 s' w1 hrg (fun x hx => HWI.out x (hp.mem_iff.1 hx)) (by omega))
      have HP := hid hp
      have HSD := hid hsd
      have TC := hid tc
      simp only [Value.slice.injEq] at hv
      obtain ⟨rfl, h2, rfl⟩ := hv
      rw [← h2] at KJ
      clear hp hsd hrg tc K hl1 h2
      go_wp2_with fail
      refine KJ.out.mono ?_
      rintro e w2 ⟨v2, rfl, ow⟩
      have OW2 := hid ow
      obtain ⟨a2, c2, hav⟩ := own_shape ow.own
      subst hav
      clear ow KJ
      go_wp2
      go_ret
      exact ⟨_, s', rfl, HSS.out ▸ HP.out, HSD.out, ⟨OW2.out.own, fun g e => Nat.le_trans TC.out.size (OW2.out.new g e), TC.out.trans OW2.out.touch (fun _ _ e => e)⟩⟩
end Go.Proofs.YtnngemdpoemhgaaDoor
