/- Texts of this proof, one behind the other: what each says stands ahead of it. -/
import Derived.Test.YtpjnnbegimaaeaaDoorM10
import Derived.Test.YtpjnnbegimaaeaaDoorM8
import Derived.Test.YtpjnnbegimaaeaaDoorM9
import Derived.Test.YtpjnnbegimaaeaaDoorM4
import Derived.Test.YtpjnnbegimaaeaaDoorM2
import Derived.Test.YtpjnnbegimaaeaaDoorM7
/- Decode of what Encode makes, with and without marks: plain; no condition beside those told. -/
namespace Go.Proofs.YtpjnnbegimaaeaaDoor
open Go.RowKit
open Go.Lib

theorem toList_data (s : ByteArray) : s.toList = s.data.toList := by
  have go : ∀ (n i : Nat) (r : List UInt8), s.size - i = n → ByteArray.toList.loop s i r = r.reverse ++ s.data.toList.drop i := by
    intro n
    induction n with
    | zero =>
      intro i r h
      unfold ByteArray.toList.loop
      rw [if_neg (by omega), List.drop_eq_nil_of_le (by rw [Array.length_toList]; show s.size ≤ i; omega), List.append_nil]
    | succ n ih =>
      intro i r h
      have hi : i < s.size := by omega
      have hi' : i < s.data.toList.length := by rw [Array.length_toList]; exact hi
      unfold ByteArray.toList.loop
      rw [if_pos hi, ih (i + 1) _ (by omega), List.drop_eq_getElem_cons hi', List.reverse_cons, List.append_assoc]
      congr 1
      show s.get! i :: _ = _
      congr 1
      show s.data[i]! = _
      rw [getElem!_pos s.data i hi]
      rfl
  unfold ByteArray.toList
  rw [go _ 0 [] rfl]
  rfl
theorem beg_iff (s p : ByteArray) : begB s p = true ↔ Lays s 0 (nums p) := by
  have hl : (nums p).length = p.size := by unfold nums; rw [List.length_map, Array.length_toList]; rfl
  have hx : ∀ j (h : j < (nums p).length), (nums p)[j] = (byN p j : Int) := fun j h => by
    have hj : j < p.size := by omega
    unfold byN
    rw [dif_pos hj]
    have h' : j < (p.data.toList.map fun b => (b.toNat : Int)).length := h
    show (p.data.toList.map fun b => (b.toNat : Int))[j]'h' = _
    rw [List.getElem_map]
    rfl
  unfold begB
  rw [Bool.and_eq_true, decide_eq_true_eq, beq_iff_eq, toList_data, toList_data]
  constructor
  · rintro ⟨h1, h2⟩ j hj
    have hj2 : j < p.size := by omega
    have h3 : (s.extract 0 p.size).data.toList[j]? = p.data.toList[j]? := by rw [h2]
    have h4 : j < (s.extract 0 p.size).size := by rw [ByteArray.size_extract]; omega
    refine ⟨by omega, ?_⟩
    rw [hx j hj, Nat.zero_add]
    have h5 : j < s.size := by omega
    unfold byN
    rw [dif_pos h5, dif_pos hj2]
    have h6 : (s.extract 0 p.size)[j] = p[j] := by
      rw [List.getElem?_eq_getElem (by rw [Array.length_toList]; exact h4), List.getElem?_eq_getElem (by rw [Array.length_toList]; exact hj2), Option.some_inj] at h3
      exact h3
    rw [← h6, ByteArray.getElem_extract]
    simp
  · intro h
    have h1 : p.size ≤ s.size := by
      by_cases h0 : p.size = 0
      · omega
      · have := (h (p.size - 1) (by omega)).1
        omega
    refine ⟨h1, ?_⟩
    have hsz : (s.extract 0 p.size).size = p.size := by rw [ByteArray.size_extract]; omega
    apply List.ext_getElem
    · rw [Array.length_toList, Array.length_toList]
      exact hsz
    · intro j h2 h3
      have hj : j < p.size := by rw [Array.length_toList] at h3; exact h3
      have hq := (h j (by omega)).2
      have h5 : j < s.size := by omega
      rw [hx j (by omega), Nat.zero_add] at hq
      unfold byN at hq
      rw [dif_pos h5, dif_pos hj] at hq
      have h6 : s[j] = p[j] := UInt8.toNat_inj.1 (by omega)
      have h7 : (s.extract 0 p.size)[j]'(by omega) = s[j] := by rw [ByteArray.getElem_extract]; simp
      show (s.extract 0 p.size)[j]'(by omega) = p[j]
      rw [h7, h6]
theorem lay_str (l : List Int) (h : ∀ b ∈ l, 0 ≤ b ∧ b ≤ 255) : (strOfNums l).size = l.length ∧ Lays (strOfNums l) 0 l := by
  have hs : (strOfNums l).size = l.length := by
    show ((l.map fun n => UInt8.ofNat n.toNat).toArray).size = _
    simp
  refine ⟨hs, fun j hj => ?_⟩
  refine ⟨by omega, ?_⟩
  rw [Nat.zero_add]
  unfold byN
  rw [dif_pos (by omega)]
  have hb := h l[j] (List.getElem_mem hj)
  have h1 : (strOfNums l)[j]'(by omega) = UInt8.ofNat l[j].toNat := by
    show ((l.map fun n => UInt8.ofNat n.toNat).toArray)[j]'(by simp; exact hj) = _
    simp
  rw [h1, UInt8.toNat_ofNat']
  omega
theorem enc_in (c : Nat) (hc : c = 1 ∨ c = 2 ∨ c = 3 ∨ c = 4) (x : Int) (h : okc c x = true) : ∀ b ∈ enc c x, 0 ≤ b ∧ b ≤ 255 := by
  have hx := (scB_iff x).1 (okc_sc h)
  have h4 := okc_in h
  unfold topc at h4
  unfold enc en8 en16 enU
  repeat' split
  all_goals
    intro b hb
    simp only [List.mem_append, List.mem_cons, List.not_mem_nil, or_false] at hb
  all_goals first | (rcases hb with rfl | rfl | rfl | rfl <;> omega) | (rcases hb with rfl | rfl | rfl <;> omega) | (rcases hb with (rfl | rfl) | rfl | rfl <;> omega) | (rcases hb with rfl | rfl <;> omega) | (subst hb; split at h4 <;> omega)
theorem flat_in (c : Nat) (hc : c = 1 ∨ c = 2 ∨ c = 3 ∨ c = 4) (l : List Int) (h : l.all (okc c) = true) : ∀ b ∈ l.flatMap (enc c), 0 ≤ b ∧ b ≤ 255 := fun b hb => by
  obtain ⟨x, hx, hb⟩ := List.mem_flatMap.1 hb
  exact enc_in c hc x (List.all_eq_true.1 h x hx) b hb

theorem mk_enc (c : Nat) (hc : c = 1 ∨ c = 2 ∨ c = 3) : nums (mk c) = enc c 65279 ∧ (mk c).size = (enc c 65279).length ∧ okc c 65279 = true := by
  rcases hc with rfl | rfl | rfl <;> decide +kernel
/-- The scalars with their mark, if there is one. -/
def fullL (c : Nat) (mark : Bool) (l : List Int) : List Int := if mark = true ∧ c ≠ 4 then 65279 :: l else l
theorem full_flat (c : Nat) (hc : c = 1 ∨ c = 2 ∨ c = 3 ∨ c = 4) (mark : Bool) (l : List Int) : (if mark then nums (mk c) else []) ++ l.flatMap (enc c) = (fullL c mark l).flatMap (enc c) := by
  unfold fullL
  cases mark
  · simp
  · by_cases h4 : c = 4
    · subst h4
      rfl
    · rw [if_pos rfl, if_pos ⟨rfl, h4⟩, List.flatMap_cons, (mk_enc c (by omega)).1]
theorem full_ok (c : Nat) (hc : c = 1 ∨ c = 2 ∨ c = 3 ∨ c = 4) (mark : Bool) (l : List Int) (h : l.all (okc c) = true) : (fullL c mark l).all (okc c) = true := by
  unfold fullL
  split
  · rename_i hm
    rw [List.all_cons, (mk_enc c (by omega)).2.2, h]
    rfl
  · exact h
/-- What is left of scalars when a mark is passed over. -/
def dropM (c : Nat) (l : List Int) : List Int := if c ≠ 4 ∧ l.head? = some 65279 then l.tail else l
theorem dec_full (c : Nat) (hc : c = 1 ∨ c = 2 ∨ c = 3 ∨ c = 4) (strict : Bool) (l : List Int) (ha : l.all (okc c) = true) (s : ByteArray) (hl : Lays s 0 (l.flatMap (enc c))) (hs : s.size = (l.flatMap (enc c)).length) :
    (bg s c).1 = c ∧ ∃ ps, dcGo s c strict s.size (bg s c).2 [] [] 0 = (none, dropM c l, ps, 0) := by
  have hb : bg s c = if begB s (mk c) = true then (c, (mk c).size) else (c, 0) := by
    unfold bg
    rw [if_neg (by omega)]
  by_cases h4 : c = 4
  · subst h4
    have h0 : bg s 4 = (4, 0) := by rw [hb]; split <;> rfl
    rw [h0]
    refine ⟨rfl, ?_⟩
    obtain ⟨ps, h⟩ := dc_fwd 4 hc s strict l s.size 0 [] [] 0 ha hl (by omega) (by omega)
    exact ⟨ps, by rw [h]; rfl⟩
  obtain ⟨m1, m2, m3⟩ := mk_enc c (by omega)
  have mp := enc_pos c 65279
  by_cases hh : l.head? = some 65279
  · obtain ⟨t, rfl⟩ : ∃ t, l = 65279 :: t := by
      cases l with
      | nil => cases hh
      | cons x t =>
        simp at hh
        exact ⟨t, by rw [hh]⟩
    rw [List.flatMap_cons] at hl hs
    rw [List.length_append] at hs
    rw [List.all_cons, Bool.and_eq_true] at ha
    have hbeg : begB s (mk c) = true := (beg_iff s (mk c)).2 (by rw [m1]; exact hl.left)
    rw [if_pos hbeg] at hb
    rw [hb]
    refine ⟨rfl, ?_⟩
    have hr := hl.right
    rw [Nat.zero_add, ← m2] at hr
    obtain ⟨ps, h⟩ := dc_fwd c hc s strict t s.size (mk c).size [] [] 0 ha.2 hr (by omega) (by omega)
    refine ⟨ps, ?_⟩
    show dcGo s c strict s.size (mk c).size [] [] 0 = _
    rw [h]
    unfold dropM
    rw [if_pos ⟨h4, rfl⟩]
    rfl
  · have hbeg : ¬ begB s (mk c) = true := fun e => by
      have e1 := (beg_iff s (mk c)).1 e
      rw [m1] at e1
      have e2 := tkAt_fwd c hc s 0 65279 m3 e1
      cases l with
      | nil =>
        have := (e1 0 mp).1
        rw [List.flatMap_nil, List.length_nil] at hs
        omega
      | cons x t =>
        rw [List.all_cons, Bool.and_eq_true] at ha
        rw [List.flatMap_cons] at hl
        have e3 := tkAt_fwd c hc s 0 x ha.1 hl.left
        rw [e2] at e3
        apply hh
        rw [List.head?_cons, ← (Prod.mk.inj e3).1]
    rw [if_neg hbeg] at hb
    rw [hb]
    refine ⟨rfl, ?_⟩
    obtain ⟨ps, h⟩ := dc_fwd c hc s strict l s.size 0 [] [] 0 ha hl (by omega) (by omega)
    refine ⟨ps, ?_⟩
    show dcGo s c strict s.size 0 [] [] 0 = _
    rw [h]
    unfold dropM
    rw [if_neg (fun e => hh e.2)]
    rfl
theorem dec_auto (c : Nat) (hc : c = 1 ∨ c = 2 ∨ c = 3) (strict : Bool) (l : List Int) (ha : l.all (okc c) = true) (s : ByteArray) (hl : Lays s 0 ((65279 :: l).flatMap (enc c))) (hs : s.size = ((65279 :: l).flatMap (enc c)).length) :
    (bg s 0).1 = c ∧ ∃ ps, dcGo s c strict s.size (bg s 0).2 [] [] 0 = (none, l, ps, 0) := by
  obtain ⟨m1, m2, m3⟩ := mk_enc c hc
  rw [List.flatMap_cons] at hl hs
  rw [List.length_append] at hs
  have hbeg : begB s (mk c) = true := (beg_iff s (mk c)).2 (by rw [m1]; exact hl.left)
  have hno : ∀ d, (d = 1 ∨ d = 2) → d ≠ c → ¬ begB s (mk d) = true := fun d hd hdc e => by
    have e1 := (beg_iff s (mk d)).1 e
    have e2 := (beg_iff s (mk c)).1 hbeg
    have q1 : ∃ h : 0 < (nums (mk d)).length, (nums (mk d))[0] = if d = 1 then 239 else if d = 2 then 255 else 254 := by rcases hd with rfl | rfl <;> exact ⟨by decide, rfl⟩
    have q2 : ∃ h : 0 < (nums (mk c)).length, (nums (mk c))[0] = if c = 1 then 239 else if c = 2 then 255 else 254 := by rcases hc with rfl | rfl | rfl <;> exact ⟨by decide, rfl⟩
    obtain ⟨p1, q1⟩ := q1
    obtain ⟨p2, q2⟩ := q2
    have z1 := (e1 0 p1).2
    have z2 := (e2 0 p2).2
    rw [q1] at z1
    rw [q2] at z2
    rcases hd with rfl | rfl <;> rcases hc with rfl | rfl | rfl <;> simp at z1 z2 hdc <;> omega
  have hb : bg s 0 = (c, (mk c).size) := by
    show sn s 3 1 = _
    unfold sn
    rcases hc with rfl | rfl | rfl
    · rw [if_pos hbeg]
    · rw [if_neg (hno 1 (by omega) (by omega))]
      unfold sn
      rw [if_pos hbeg]
    · rw [if_neg (hno 1 (by omega) (by omega))]
      unfold sn
      rw [if_neg (hno 2 (by omega) (by omega))]
      unfold sn
      rw [if_pos hbeg]
  rw [hb]
  refine ⟨rfl, ?_⟩
  have hr := hl.right
  rw [Nat.zero_add, ← m2] at hr
  obtain ⟨ps, h⟩ := dc_fwd c (by omega) s strict l s.size (mk c).size [] [] 0 ha hr (by omega) (by omega)
  exact ⟨ps, h⟩
end Go.Proofs.YtpjnnbegimaaeaaDoor

/- Encode in every coding, and Decode of what it makes; conditions: those told. -/
namespace Go.Proofs.YtpjnnbegimaaeaaDoor
open Go.RowKit
open Go.Lib

theorem encode_any (c : Nat) (hc : c = 1 ∨ c = 2 ∨ c = 3 ∨ c = 4) (a : Option Addr) (k : Nat) (l : List Int) (mark : Bool) (w : World) (ht : Tabs w) (hl : l = [] ∨ Ig w a l) (hb : l.length ≤ 1048576) :
    Calls Tryd.prog 11 #[.slice a l.length k, .int .i64 (c : Nat), .bool mark] w fun e w' => e = .returned (encR c mark l) ∧ Touch (fun _ => False) w w' := by
  rcases hc with rfl | rfl | rfl | rfl
  · exact encode_1 a k l mark w ht hl hb
  · exact encode_2 a k l mark w ht hl hb
  · exact encode_3 a k l mark w ht hl hb
  · exact encode_4 a k l mark w ht hl hb
/-- What Encode makes of scalars. -/
def encS (c : Nat) (mark : Bool) (l : List Int) : ByteArray := strOfNums ((fullL c mark l).flatMap (enc c))
theorem encR_yes {c : Nat} (hc : c = 1 ∨ c = 2 ∨ c = 3 ∨ c = 4) {mark : Bool} {l : List Int} (h : l.all (okc c) = true) : encR c mark l = .tuple #[.string (encS c mark l), .int .i64 0] := by
  unfold encR encS
  rw [if_pos h, full_flat c hc]
theorem encR_no {c : Nat} {mark : Bool} {l : List Int} (h : l.all (okc c) = false) : encR c mark l = .tuple #[.string ⟨#[]⟩, .int .i64 17] := by
  unfold encR
  rw [if_neg (by rw [h]; decide)]
theorem encS_lay {c : Nat} (hc : c = 1 ∨ c = 2 ∨ c = 3 ∨ c = 4) (mark : Bool) {l : List Int} (h : l.all (okc c) = true) : (encS c mark l).size = ((fullL c mark l).flatMap (enc c)).length ∧ Lays (encS c mark l) 0 ((fullL c mark l).flatMap (enc c)) :=
  lay_str _ (flat_in c hc _ (full_ok c hc mark l h))
theorem fullL_len (c : Nat) (mark : Bool) (l : List Int) : (fullL c mark l).length ≤ l.length + 1 := by
  unfold fullL
  split <;> simp
theorem encS_size {c : Nat} (hc : c = 1 ∨ c = 2 ∨ c = 3 ∨ c = 4) (mark : Bool) {l : List Int} (h : l.all (okc c) = true) : (encS c mark l).size ≤ 4 * l.length + 4 := by
  have h1 := (encS_lay hc mark h).1
  have h2 := flat_len c (fullL c mark l)
  have h3 := fullL_len c mark l
  omega
theorem decode_auto (c : Nat) (hc : c = 1 ∨ c = 2 ∨ c = 3) (l : List Int) (ha : l.all (okc c) = true) (w : World) (ht : Tabs w) (hb : l.length ≤ 1048576) :
    Calls Tryd.prog 10 #[.string (encS c true l), .int .i64 0, .bool true] w fun e w' => ∃ a1 k1 a2 n2 k2, e = .returned (.tuple #[.agg #[.int .i64 (c : Nat), .slice a1 l.length k1, .slice a2 n2 k2, .int .i64 0], .agg #[.int .i64 0, .int .i64 0]]) ∧ Ix w' a1 l ∧ Touch (fun _ => False) w w' := by
  have hc4 : c = 1 ∨ c = 2 ∨ c = 3 ∨ c = 4 := by omega
  obtain ⟨h1, h2⟩ := encS_lay hc4 true ha
  have hz := encS_size hc4 true ha
  generalize encS c true l = s at *
  have hf : fullL c true l = 65279 :: l := by
    unfold fullL
    rw [if_pos ⟨rfl, by omega⟩]
  rw [hf] at h1 h2
  obtain ⟨g1, ps, g2⟩ := dec_auto c hc true l ha s h2 h1
  have K := decode_any s 0 true w ht (by omega) (by omega)
  rw [g1, g2] at K
  refine K.mono ?_
  rintro e w' (⟨i, h, _⟩ | ⟨_, ⟨v1, v2, rfl, o1, o2⟩⟩)
  · cases h
  · obtain ⟨a1, k1, rfl⟩ := own_shape o1.own
    obtain ⟨a2, k2, rfl⟩ := own_shape o2.own
    obtain ⟨h, _⟩ := o1.in
    refine ⟨a1, k1, a2, _, k2, rfl, ?_, o1.touch⟩
    rcases h with ⟨h, _⟩ | h
    · exact .inl h
    · exact h.ix
theorem decode_same (c : Nat) (hc : c = 1 ∨ c = 2 ∨ c = 3 ∨ c = 4) (l : List Int) (ha : l.all (okc c) = true) (s : ByteArray) (h1 : s.size = (l.flatMap (enc c)).length) (h2 : Lays s 0 (l.flatMap (enc c))) (w : World) (ht : Tabs w) (hb : s.size ≤ 1099511627776) :
    Calls Tryd.prog 10 #[.string s, .int .i64 (c : Nat), .bool true] w fun e w' => ∃ a1 n1 k1 a2 n2 k2, e = .returned (.tuple #[.agg #[.int .i64 (c : Nat), .slice a1 n1 k1, .slice a2 n2 k2, .int .i64 0], .agg #[.int .i64 0, .int .i64 0]]) ∧ n1 = (dropM c l).length ∧ Ix w' a1 (dropM c l) ∧ Touch (fun _ => False) w w' := by
  obtain ⟨g1, ps, g2⟩ := dec_full c hc true l ha s h2 h1
  have K := decode_any s c true w ht (by omega) (by omega)
  rw [g1, g2] at K
  refine K.mono ?_
  rintro e w' (⟨i, h, _⟩ | ⟨_, ⟨v1, v2, rfl, o1, o2⟩⟩)
  · cases h
  · obtain ⟨a1, k1, rfl⟩ := own_shape o1.own
    obtain ⟨a2, k2, rfl⟩ := own_shape o2.own
    obtain ⟨h, _⟩ := o1.in
    refine ⟨a1, _, k1, a2, _, k2, rfl, rfl, ?_, o1.touch⟩
    rcases h with ⟨h, _⟩ | h
    · exact .inl h
    · exact h.ix
end Go.Proofs.YtpjnnbegimaaeaaDoor

/- The document's Mark and begins; no condition beside those told. -/
namespace Go.Proofs.YtpjnnbegimaaeaaDoor
open Go.RowKit

set_option maxRecDepth 100000 in
theorem begins_any (s p : ByteArray) (w : World) : Calls Tryd.prog 21 #[.string s, .string p] w fun e w' => e = .returned (.bool (begB s p)) ∧ w = w' := by
  by_cases h : p.size ≤ s.size
  · have hI : (p.size : Int) ≤ (s.size : Int) := by omega
    have HB := hid (show begB s p = ((s.extract 0 p.size).toList == p.toList) by unfold begB; rw [decide_eq_true h]; rfl)
    go_enter Tryd.func21, Tryd.ntmps21
    go_wp2
    go_ret
    exact ⟨by rw [HB.out]; rfl, rfl⟩
  · have hI : ¬ ((p.size : Int) ≤ (s.size : Int)) := by omega
    have HB := hid (show begB s p = false by unfold begB; rw [decide_eq_false h]; rfl)
    go_enter Tryd.func21, Tryd.ntmps21
    go_wp2
    go_ret
    exact ⟨by rw [HB.out]; rfl, rfl⟩
theorem conv_lit (w : World) (l : List UInt8) (n : Nat) (hn : n = l.length) (cs : Array Value) (hcs : cs = (l.map fun b => Value.int .u8 (b.toNat : Int)).toArray) : (convert 52 9 (.slice (some ⟨w.heap.size, 0, none⟩) n n)).run Tryd.prog (w.alloc (.cells cs 5)) = .ok (.string ⟨l.toArray⟩) (w.alloc (.cells cs 5)) := by
  subst hn hcs
  refine run_convert_bytes_back (P := Tryd.prog) _ 52 9 5 ⟨w.heap.size, 0, none⟩ l.length l Tryd.underlying52 Tryd.underlying5 Tryd.underlying9 (fun j hj => ?_)
  rw [add_g]
  unfold World.cell?
  rw [block_new]
  simp [hj]
set_option maxRecDepth 100000 in
theorem mark_one (w : World) : Calls Tryd.prog 14 #[.int .i64 1] w fun e w' => e = .returned (.string (mk 1)) ∧ Touch (fun _ => False) w w' := by
  have hcv := conv_lit w [239, 187, 191] 3 rfl #[.int .u8 239, .int .u8 187, .int .u8 191] rfl
  go_enter Tryd.func14, Tryd.ntmps14
  go_wp2
  go_ret
  exact ⟨rfl, (Touch.refl _ w).alloc _⟩
set_option maxRecDepth 100000 in
theorem mark_two (w : World) : Calls Tryd.prog 14 #[.int .i64 2] w fun e w' => e = .returned (.string (mk 2)) ∧ Touch (fun _ => False) w w' := by
  have hcv := conv_lit w [255, 254] 2 rfl #[.int .u8 255, .int .u8 254] rfl
  go_enter Tryd.func14, Tryd.ntmps14
  go_wp2
  go_ret
  exact ⟨rfl, (Touch.refl _ w).alloc _⟩
set_option maxRecDepth 100000 in
theorem mark_three (w : World) : Calls Tryd.prog 14 #[.int .i64 3] w fun e w' => e = .returned (.string (mk 3)) ∧ Touch (fun _ => False) w w' := by
  have hcv := conv_lit w [254, 255] 2 rfl #[.int .u8 254, .int .u8 255] rfl
  go_enter Tryd.func14, Tryd.ntmps14
  go_wp2
  go_ret
  exact ⟨rfl, (Touch.refl _ w).alloc _⟩
set_option maxRecDepth 100000 in
theorem mark_four (w : World) : Calls Tryd.prog 14 #[.int .i64 4] w fun e w' => e = .returned (.string (mk 4)) ∧ Touch (fun _ => False) w w' := by
  go_enter Tryd.func14, Tryd.ntmps14
  go_wp2
  go_ret
  exact ⟨rfl, Touch.refl _ w⟩
theorem mark_any (c : Nat) (hc : 1 ≤ c ∧ c ≤ 4) (w : World) : Calls Tryd.prog 14 #[.int .i64 c] w fun e w' => e = .returned (.string (mk c)) ∧ Touch (fun _ => False) w w' := by
  rcases (show c = 1 ∨ c = 2 ∨ c = 3 ∨ c = 4 by omega) with rfl | rfl | rfl | rfl
  · exact mark_one w
  · exact mark_two w
  · exact mark_three w
  · exact mark_four w
end Go.Proofs.YtpjnnbegimaaeaaDoor

/- The document's Scalar and Bytes; conditions: those told. -/
namespace Go.Proofs.YtpjnnbegimaaeaaDoor
open Go.RowKit
open Go.Lib

set_option maxRecDepth 100000 in
theorem rscalar_any (r : Int) (w : World) : Calls Tryd.prog 24 #[.int .i64 r] w fun e w' => e = .returned (.bool (scB r)) ∧ w = w' := by
  by_cases h0 : 0 ≤ r
  · by_cases h1 : r ≤ 1114111
    · by_cases h2 : r < 55296
      · have HS := hid ((scB_iff r).2 ⟨h0, h1, .inl h2⟩)
        go_enter Tryd.func24, Tryd.ntmps24
        go_wp2
        go_ret
        exact ⟨by rw [HS.out]; rfl, rfl⟩
      · by_cases h3 : 57343 < r
        · have HS := hid ((scB_iff r).2 ⟨h0, h1, .inr (by omega)⟩)
          go_enter Tryd.func24, Tryd.ntmps24
          go_wp2
          go_ret
          exact ⟨by rw [HS.out]; rfl, rfl⟩
        · have HS := hid (show scB r = false from Bool.eq_false_iff.2 (fun e => by rw [scB_iff] at e; omega))
          go_enter Tryd.func24, Tryd.ntmps24
          go_wp2
          go_ret
          exact ⟨by rw [HS.out]; rfl, rfl⟩
    · have HS := hid (show scB r = false from Bool.eq_false_iff.2 (fun e => by rw [scB_iff] at e; omega))
      go_enter Tryd.func24, Tryd.ntmps24
      go_wp2
      go_ret
      exact ⟨by rw [HS.out]; rfl, rfl⟩
  · have HS := hid (show scB r = false from Bool.eq_false_iff.2 (fun e => by rw [scB_iff] at e; omega))
    go_enter Tryd.func24, Tryd.ntmps24
    go_wp2
    go_ret
    exact ⟨by rw [HS.out]; rfl, rfl⟩

theorem conv_litI (w : World) (l : List Int) (n : Nat) (hn : n = l.length) (cs : Array Value) (hcs : cs = (l.map (Value.int .u8)).toArray) : (convert 52 9 (.slice (some ⟨w.heap.size, 0, none⟩) n n)).run Tryd.prog (w.alloc (.cells cs 5)) = .ok (.string (strOfNums l)) (w.alloc (.cells cs 5)) := by
  subst hn hcs
  refine run_convert_bytes_arg _ 52 5 Tryd.underlying52 Tryd.underlying5 w.heap.size 0 l.length l.length l rfl (fun i hi => ?_) 9 Tryd.underlying9
  unfold World.cell?
  rw [block_new]
  simp [hi]
theorem wrap8 (r : Int) (h : 0 ≤ r ∧ r ≤ 255) : IntKind.u8.wrap r = r := by
  have : IntKind.u8.wrap r = r % 256 := by
    simp [IntKind.wrap, IntKind.bits, IntKind.signed]
  omega

set_option maxRecDepth 100000 in
theorem bytes_latin (r : Int) (h : 0 ≤ r ∧ r ≤ 255) (w : World) : Calls Tryd.prog 25 #[.int .i64 r, .int .i64 4] w fun e w' => e = .returned (.string (strOfNums [r])) ∧ Touch (fun _ => False) w w' := by
  have hcv := conv_litI w [r] 1 rfl #[.int .u8 r] rfl
  have hw0 := wrap8 (r) (by omega)
  have hr : 0 ≤ r := by omega
  have HH := hid h
  clear h
  go_enter Tryd.func25, Tryd.ntmps25
  go_wp2
  go_ret
  exact ⟨rfl, (Touch.refl _ w).alloc _⟩
set_option maxRecDepth 100000 in
theorem bytes_one (r : Int) (h : 0 ≤ r ∧ r < 128) (w : World) : Calls Tryd.prog 25 #[.int .i64 r, .int .i64 1] w fun e w' => e = .returned (.string (strOfNums [r])) ∧ Touch (fun _ => False) w w' := by
  have hcv := conv_litI w [r] 1 rfl #[.int .u8 r] rfl
  have hw0 := wrap8 (r) (by omega)
  have hr : 0 ≤ r := by omega
  have l128 : r < 128 := by omega
  have HH := hid h
  clear h
  go_enter Tryd.func25, Tryd.ntmps25
  go_wp2
  go_ret
  exact ⟨rfl, (Touch.refl _ w).alloc _⟩
set_option maxRecDepth 100000 in
theorem bytes_two (r : Int) (h : 128 ≤ r ∧ r < 2048) (w : World) : Calls Tryd.prog 25 #[.int .i64 r, .int .i64 1] w fun e w' => e = .returned (.string (strOfNums [192 + r / 64, 128 + r % 64])) ∧ Touch (fun _ => False) w w' := by
  have hcv := conv_litI w [192 + r / 64, 128 + r % 64] 2 rfl #[.int .u8 (192 + r / 64), .int .u8 (128 + r % 64)] rfl
  have hw0 := wrap8 (192 + r / 64) (by omega)
  have hw1 := wrap8 (128 + r % 64) (by omega)
  have hr : 0 ≤ r := by omega
  have n128 : ¬ (r < 128) := by omega
  have l2048 : r < 2048 := by omega
  have HH := hid h
  clear h
  go_enter Tryd.func25, Tryd.ntmps25
  go_wp2
  go_ret
  exact ⟨rfl, (Touch.refl _ w).alloc _⟩
set_option maxRecDepth 100000 in
theorem bytes_three (r : Int) (h : 2048 ≤ r ∧ r < 65536) (w : World) : Calls Tryd.prog 25 #[.int .i64 r, .int .i64 1] w fun e w' => e = .returned (.string (strOfNums [224 + r / 4096, 128 + r / 64 % 64, 128 + r % 64])) ∧ Touch (fun _ => False) w w' := by
  have hcv := conv_litI w [224 + r / 4096, 128 + r / 64 % 64, 128 + r % 64] 3 rfl #[.int .u8 (224 + r / 4096), .int .u8 (128 + r / 64 % 64), .int .u8 (128 + r % 64)] rfl
  have hw0 := wrap8 (224 + r / 4096) (by omega)
  have hw1 := wrap8 (128 + r / 64 % 64) (by omega)
  have hw2 := wrap8 (128 + r % 64) (by omega)
  have hr : 0 ≤ r := by omega
  have n128 : ¬ (r < 128) := by omega
  have n2048 : ¬ (r < 2048) := by omega
  have l65536 : r < 65536 := by omega
  have HH := hid h
  clear h
  go_enter Tryd.func25, Tryd.ntmps25
  go_wp2
  go_ret
  exact ⟨rfl, (Touch.refl _ w).alloc _⟩
set_option maxRecDepth 100000 in
theorem bytes_four (r : Int) (h : 65536 ≤ r ∧ r ≤ 1114111) (w : World) : Calls Tryd.prog 25 #[.int .i64 r, .int .i64 1] w fun e w' => e = .returned (.string (strOfNums [240 + r / 262144, 128 + r / 4096 % 64, 128 + r / 64 % 64, 128 + r % 64])) ∧ Touch (fun _ => False) w w' := by
  have hcv := conv_litI w [240 + r / 262144, 128 + r / 4096 % 64, 128 + r / 64 % 64, 128 + r % 64] 4 rfl #[.int .u8 (240 + r / 262144), .int .u8 (128 + r / 4096 % 64), .int .u8 (128 + r / 64 % 64), .int .u8 (128 + r % 64)] rfl
  have hw0 := wrap8 (240 + r / 262144) (by omega)
  have hw1 := wrap8 (128 + r / 4096 % 64) (by omega)
  have hw2 := wrap8 (128 + r / 64 % 64) (by omega)
  have hw3 := wrap8 (128 + r % 64) (by omega)
  have hr : 0 ≤ r := by omega
  have n128 : ¬ (r < 128) := by omega
  have n2048 : ¬ (r < 2048) := by omega
  have n65536 : ¬ (r < 65536) := by omega
  have hm : r ≤ 1114111 := h.2
  have HH := hid h
  clear h
  go_enter Tryd.func25, Tryd.ntmps25
  go_wp2
  go_ret
  exact ⟨rfl, (Touch.refl _ w).alloc _⟩
set_option maxRecDepth 100000 in
theorem bytes_little (r : Int) (h : 0 ≤ r ∧ r ≤ 65535) (w : World) : Calls Tryd.prog 25 #[.int .i64 r, .int .i64 2] w fun e w' => e = .returned (.string (strOfNums [r % 256, r / 256])) ∧ Touch (fun _ => False) w w' := by
  have hcv := conv_litI w [r % 256, r / 256] 2 rfl #[.int .u8 (r % 256), .int .u8 (r / 256)] rfl
  have hw0 := wrap8 (r % 256) (by omega)
  have hw1 := wrap8 (r / 256) (by omega)
  have hr : 0 ≤ r := by omega
  have ng : ¬ (65535 < r) := by omega
  have HH := hid h
  clear h
  go_enter Tryd.func25, Tryd.ntmps25
  go_wp2
  go_ret
  exact ⟨rfl, (Touch.refl _ w).alloc _⟩
set_option maxRecDepth 100000 in
theorem bytes_big (r : Int) (h : 0 ≤ r ∧ r ≤ 65535) (w : World) : Calls Tryd.prog 25 #[.int .i64 r, .int .i64 3] w fun e w' => e = .returned (.string (strOfNums [r / 256, r % 256])) ∧ Touch (fun _ => False) w w' := by
  have hcv := conv_litI w [r / 256, r % 256] 2 rfl #[.int .u8 (r / 256), .int .u8 (r % 256)] rfl
  have hw0 := wrap8 (r / 256) (by omega)
  have hw1 := wrap8 (r % 256) (by omega)
  have hr : 0 ≤ r := by omega
  have ng : ¬ (65535 < r) := by omega
  have HH := hid h
  clear h
  go_enter Tryd.func25, Tryd.ntmps25
  go_wp2
  go_ret
  exact ⟨rfl, (Touch.refl _ w).alloc _⟩
theorem str_app (a b : List Int) : strOfNums a ++ strOfNums b = strOfNums (a ++ b) := by
  apply ByteArray.ext
  rw [ByteArray.data_append]
  unfold strOfNums
  simp
theorem bytes_unit (c f : Nat) (hcf : (c = 2 ∧ f = 34) ∨ (c = 3 ∧ f = 35)) (r : Int) (h : 0 ≤ r ∧ r ≤ 65535) (w : World) : Calls Tryd.prog 25 #[.int .i64 r, .int .i64 (c : Nat)] w fun e w' => e = .returned (.string (strOfNums (enU f r))) ∧ Touch (fun _ => False) w w' := by
  rcases hcf with ⟨rfl, rfl⟩ | ⟨rfl, rfl⟩
  · exact bytes_little r h w
  · exact bytes_big r h w
set_option maxRecDepth 100000 in
set_option maxHeartbeats 4000000 in
theorem bytes_pair (c f : Nat) (hcf : (c = 2 ∧ f = 34) ∨ (c = 3 ∧ f = 35)) (r : Int) (h : 65536 ≤ r ∧ r ≤ 1114111) (w : World) : Calls Tryd.prog 25 #[.int .i64 r, .int .i64 (c : Nat)] w fun e w' => e = .returned (.string (strOfNums (enU f (55296 + (r - 65536) / 1024) ++ enU f (56320 + (r - 65536) % 1024)))) ∧ Touch (fun _ => False) w w' := by
  have K1 := hid (fun w => bytes_unit c f hcf (55296 + (r - 65536) / 1024) (by omega) w)
  have K2 := hid (fun w => bytes_unit c f hcf (56320 + (r - 65536) % 1024) (by omega) w)
  have hc1 : ¬ ((c : Int) = 1) := by omega
  have hc4 : ¬ ((c : Int) = 4) := by omega
  have hg : 65535 < r := by omega
  have hr : 0 ≤ r - 65536 := by omega
  have hm : r ≤ 1114111 := h.2
  have HA := hid (str_app (enU f (55296 + (r - 65536) / 1024)) (enU f (56320 + (r - 65536) % 1024)))
  rw [← HA.out]
  have hs : ∀ x, (strOfNums (enU f x)).size = 2 := fun x => by
    unfold enU strOfNums
    split <;> rfl
  have hs1 := hs (55296 + (r - 65536) / 1024)
  have hs2 := hs (56320 + (r - 65536) % 1024)
  clear hs
  generalize strOfNums (enU f (55296 + (r - 65536) / 1024)) = s1 at *
  generalize strOfNums (enU f (56320 + (r - 65536) % 1024)) = s2 at *
  have HH := hid h
  clear h hcf
  go_enter Tryd.func25, Tryd.ntmps25
  go_wp2_with fail
  refine (K1.out w).mono ?_
  rintro e w1 ⟨rfl, t1⟩
  have T1 := hid t1
  clear t1
  go_wp2_with fail
  refine (K2.out w1).mono ?_
  rintro e w2 ⟨rfl, t2⟩
  have T2 := hid (T1.out.trans t2 (fun _ _ e => e))
  clear t2
  go_wp2
  go_ret
  exact ⟨rfl, T2.out⟩
theorem bytes_any (c : Nat) (hc : c = 1 ∨ c = 2 ∨ c = 3 ∨ c = 4) (r : Int) (h : okc c r = true) (w : World) : Calls Tryd.prog 25 #[.int .i64 r, .int .i64 (c : Nat)] w fun e w' => e = .returned (.string (strOfNums (enc c r))) ∧ Touch (fun _ => False) w w' := by
  have hi := okc_in h
  have h16 : ∀ d f : Nat, (d = 2 ∧ f = 34) ∨ (d = 3 ∧ f = 35) → 0 ≤ r ∧ r ≤ 1114111 → Calls Tryd.prog 25 #[.int .i64 r, .int .i64 (d : Nat)] w fun e w' => e = .returned (.string (strOfNums (en16 f r))) ∧ Touch (fun _ => False) w w' := fun d f hdf hr => by
    unfold en16
    by_cases h1 : r < 65536
    · rw [if_pos h1]
      exact bytes_unit d f hdf r (by omega) w
    · rw [if_neg h1]
      exact bytes_pair d f hdf r (by omega) w
  rcases hc with rfl | rfl | rfl | rfl
  · have hi' : 0 ≤ r ∧ r ≤ 1114111 := hi
    show Calls Tryd.prog 25 #[.int .i64 r, .int .i64 1] w fun e w' => e = .returned (.string (strOfNums (en8 r))) ∧ Touch (fun _ => False) w w'
    unfold en8
    by_cases h1 : r < 128
    · rw [if_pos h1]
      exact bytes_one r (by omega) w
    rw [if_neg h1]
    by_cases h2 : r < 2048
    · rw [if_pos h2]
      exact bytes_two r (by omega) w
    rw [if_neg h2]
    by_cases h3 : r < 65536
    · rw [if_pos h3]
      exact bytes_three r (by omega) w
    rw [if_neg h3]
    exact bytes_four r (by omega) w
  · exact h16 2 34 (by omega) hi
  · exact h16 3 35 (by omega) hi
  · exact bytes_latin r hi w
end Go.Proofs.YtpjnnbegimaaeaaDoor
