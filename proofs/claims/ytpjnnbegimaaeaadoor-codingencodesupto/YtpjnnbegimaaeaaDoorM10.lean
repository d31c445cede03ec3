/- Texts of this proof, one behind the other: what each says stands ahead of it. -/
import Derived.Test.YtpjnnbegimaaeaaDoorM9
import Derived.Test.YtpjnnbegimaaeaaDoorM8
import Derived.Test.YtpjnnbegimaaeaaDoorM4
/- Decode of what Encode makes, with and without marks: plain; no condition beside those told. -/
namespace Go.Proofs.YtpjnnbegimaaeaaDoor
open Go.RowKit
open Go.Lib

theorem toList_data (s : ByteArray) : s.toList = s.data.toList := by
  have go : ∀ (n i : Nat) (r : List UInt8), s.size - i = n → ByteArray.toList.loop s i r = r.reverse ++ s.data.toList.drop i := by
    intro n
    induction n with
    | zero =>
      intro i r h
      unfold ByteArray.toList.loop
      rw [if_neg (by omega), List.drop_eq_nil_of_le (by rw [Array.length_toList]; show s.size ≤ i; omega), List.append_nil]
    | succ n ih =>
      intro i r h
      have hi : i < s.size := by omega
      have hi' : i < s.data.toList.length := by rw [Array.length_toList]; exact hi
      unfold ByteArray.toList.loop
      rw [if_pos hi, ih (i + 1) _ (by omega), List.drop_eq_getElem_cons hi', List.reverse_cons, List.append_assoc]
      congr 1
      show s.get! i :: _ = _
      congr 1
      show s.data[i]! = _
      rw [getElem!_pos s.data i hi]
      rfl
  unfold ByteArray.toList
  rw [go _ 0 [] rfl]
  rfl
theorem beg_iff (s p : ByteArray) : begB s p = true ↔ Lays s 0 (nums p) := by
  have hl : (nums p).length = p.size := by unfold nums; rw [List.length_map, Array.length_toList]; rfl
  have hx : ∀ j (h : j < (nums p).length), (nums p)[j] = (byN p j : Int) := fun j h => by
    have hj : j < p.size := by omega
    unfold byN
    rw [dif_pos hj]
    have h' : j < (p.data.toList.map fun b => (b.toNat : Int)).length := h
    show (p.data.toList.map fun b => (b.toNat : Int))[j]'h' = _
    rw [List.getElem_map]
    rfl
  unfold begB
  rw [Bool.and_eq_true, decide_eq_true_eq, beq_iff_eq, toList_data, toList_data]
  constructor
  · rintro ⟨h1, h2⟩ j hj
    have hj2 : j < p.size := by omega
    have h3 : (s.extract 0 p.size).data.toList[j]? = p.data.toList[j]? := by rw [h2]
    have h4 : j < (s.extract 0 p.size).size := by rw [ByteArray.size_extract]; omega
    refine ⟨by omega, ?_⟩
    rw [hx j hj, Nat.zero_add]
    have h5 : j < s.size := by omega
    unfold byN
    rw [dif_pos h5, dif_pos hj2]
    have h6 : (s.extract 0 p.size)[j] = p[j] := by
      rw [List.getElem?_eq_getElem (by rw [Array.length_toList]; exact h4), List.getElem?_eq_getElem (by rw [Array.length_toList]; exact hj2), Option.some_inj] at h3
      exact h3
    rw [← h6, ByteArray.getElem_extract]
    simp
  · intro h
    have h1 : p.size ≤ s.size := by
      by_cases h0 : p.size = 0
      · omega
      · have := (h (p.size - 1) (by omega)).1
        omega
    refine ⟨h1, ?_⟩
    have hsz : (s.extract 0 p.size).size = p.size := by rw [ByteArray.size_extract]; omega
    apply List.ext_getElem
    · rw [Array.length_toList, Array.length_toList]
      exact hsz
    · intro j h2 h3
      have hj : j < p.size := by rw [Array.length_toList] at h3; exact h3
      have hq := (h j (by omega)).2
      have h5 : j < s.size := by omega
      rw [hx j (by omega), Nat.zero_add] at hq
      unfold byN at hq
      rw [dif_pos h5, dif_pos hj] at hq
      have h6 : s[j] = p[j] := UInt8.toNat_inj.1 (by omega)
      have h7 : (s.extract 0 p.size)[j]'(by omega) = s[j] := by rw [ByteArray.getElem_extract]; simp
      show (s.extract 0 p.size)[j]'(by omega) = p[j]
      rw [h7, h6]
theorem lay_str (l : List Int) (h : ∀ b ∈ l, 0 ≤ b ∧ b ≤ 255) : (strOfNums l).size = l.length ∧ Lays (strOfNums l) 0 l := by
  have hs : (strOfNums l).size = l.length := by
    show ((l.map fun n => UInt8.ofNat n.toNat).toArray).size = _
    simp
  refine ⟨hs, fun j hj => ?_⟩
  refine ⟨by omega, ?_⟩
  rw [Nat.zero_add]
  unfold byN
  rw [dif_pos (by omega)]
  have hb := h l[j] (List.getElem_mem hj)
  have h1 : (strOfNums l)[j]'(by omega) = UInt8.ofNat l[j].toNat := by
    show ((l.map fun n => UInt8.ofNat n.toNat).toArray)[j]'(by simp; exact hj) = _
    simp
  rw [h1, UInt8.toNat_ofNat']
  omega
theorem enc_in (c : Nat) (hc : c = 1 ∨ c = 2 ∨ c = 3 ∨ c = 4) (x : Int) (h : okc c x = true) : ∀ b ∈ enc c x, 0 ≤ b ∧ b ≤ 255 := by
  have hx := (scB_iff x).1 (okc_sc h)
  have h4 := okc_in h
  unfold topc at h4
  unfold enc en8 en16 enU
  repeat' split
  all_goals
    intro b hb
    simp only [List.mem_append, List.mem_cons, List.not_mem_nil, or_false] at hb
  all_goals first | (rcases hb with rfl | rfl | rfl | rfl <;> omega) | (rcases hb with rfl | rfl | rfl <;> omega) | (rcases hb with (rfl | rfl) | rfl | rfl <;> omega) | (rcases hb with rfl | rfl <;> omega) | (subst hb; split at h4 <;> omega)
theorem flat_in (c : Nat) (hc : c = 1 ∨ c = 2 ∨ c = 3 ∨ c = 4) (l : List Int) (h : l.all (okc c) = true) : ∀ b ∈ l.flatMap (enc c), 0 ≤ b ∧ b ≤ 255 := fun b hb => by
  obtain ⟨x, hx, hb⟩ := List.mem_flatMap.1 hb
  exact enc_in c hc x (List.all_eq_true.1 h x hx) b hb

theorem mk_enc (c : Nat) (hc : c = 1 ∨ c = 2 ∨ c = 3) : nums (mk c) = enc c 65279 ∧ (mk c).size = (enc c 65279).length ∧ okc c 65279 = true := by
  rcases hc with rfl | rfl | rfl <;> decide +kernel
/-- The scalars with their mark, if there is one. -/
def fullL (c : Nat) (mark : Bool) (l : List Int) : List Int := if mark = true ∧ c ≠ 4 then 65279 :: l else l
theorem full_flat (c : Nat) (hc : c = 1 ∨ c = 2 ∨ c = 3 ∨ c = 4) (mark : Bool) (l : List Int) : (if mark then nums (mk c) else []) ++ l.flatMap (enc c) = (fullL c mark l).flatMap (enc c) := by
  unfold fullL
  cases mark
  · simp
  · by_cases h4 : c = 4
    · subst h4
      rfl
    · rw [if_pos rfl, if_pos ⟨rfl, h4⟩, List.flatMap_cons, (mk_enc c (by omega)).1]
theorem full_ok (c : Nat) (hc : c = 1 ∨ c = 2 ∨ c = 3 ∨ c = 4) (mark : Bool) (l : List Int) (h : l.all (okc c) = true) : (fullL c mark l).all (okc c) = true := by
  unfold fullL
  split
  · rename_i hm
    rw [List.all_cons, (mk_enc c (by omega)).2.2, h]
    rfl
  · exact h
/-- What is left of scalars when a mark is passed over. -/
def dropM (c : Nat) (l : List Int) : List Int := if c ≠ 4 ∧ l.head? = some 65279 then l.tail else l
theorem dec_full (c : Nat) (hc : c = 1 ∨ c = 2 ∨ c = 3 ∨ c = 4) (strict : Bool) (l : List Int) (ha : l.all (okc c) = true) (s : ByteArray) (hl : Lays s 0 (l.flatMap (enc c))) (hs : s.size = (l.flatMap (enc c)).length) :
    (bg s c).1 = c ∧ ∃ ps, dcGo s c strict s.size (bg s c).2 [] [] 0 = (none, dropM c l, ps, 0) := by
  have hb : bg s c = if begB s (mk c) = true then (c, (mk c).size) else (c, 0) := by
    unfold bg
    rw [if_neg (by omega)]
  by_cases h4 : c = 4
  · subst h4
    have h0 : bg s 4 = (4, 0) := by rw [hb]; split <;> rfl
    rw [h0]
    refine ⟨rfl, ?_⟩
    obtain ⟨ps, h⟩ := dc_fwd 4 hc s strict l s.size 0 [] [] 0 ha hl (by omega) (by omega)
    exact ⟨ps, by rw [h]; rfl⟩
  obtain ⟨m1, m2, m3⟩ := mk_enc c (by omega)
  have mp := enc_pos c 65279
  by_cases hh : l.head? = some 65279
  · obtain ⟨t, rfl⟩ : ∃ t, l = 65279 :: t := by
      cases l with
      | nil => cases hh
      | cons x t =>
        simp at hh
        exact ⟨t, by rw [hh]⟩
    rw [List.flatMap_cons] at hl hs
    rw [List.length_append] at hs
    rw [List.all_cons, Bool.and_eq_true] at ha
    have hbeg : begB s (mk c) = true := (beg_iff s (mk c)).2 (by rw [m1]; exact hl.left)
    rw [if_pos hbeg] at hb
    rw [hb]
    refine ⟨rfl, ?_⟩
    have hr := hl.right
    rw [Nat.zero_add, ← m2] at hr
    obtain ⟨ps, h⟩ := dc_fwd c hc s strict t s.size (mk c).size [] [] 0 ha.2 hr (by omega) (by omega)
    refine ⟨ps, ?_⟩
    show dcGo s c strict s.size (mk c).size [] [] 0 = _
    rw [h]
    unfold dropM
    rw [if_pos ⟨h4, rfl⟩]
    rfl
  · have hbeg : ¬ begB s (mk c) = true := fun e => by
      have e1 := (beg_iff s (mk c)).1 e
      rw [m1] at e1
      have e2 := tkAt_fwd c hc s 0 65279 m3 e1
      cases l with
      | nil =>
        have := (e1 0 mp).1
        rw [List.flatMap_nil, List.length_nil] at hs
        omega
      | cons x t =>
        rw [List.all_cons, Bool.and_eq_true] at ha
        rw [List.flatMap_cons] at hl
        have e3 := tkAt_fwd c hc s 0 x ha.1 hl.left
        rw [e2] at e3
        apply hh
        rw [List.head?_cons, ← (Prod.mk.inj e3).1]
    rw [if_neg hbeg] at hb
    rw [hb]
    refine ⟨rfl, ?_⟩
    obtain ⟨ps, h⟩ := dc_fwd c hc s strict l s.size 0 [] [] 0 ha hl (by omega) (by omega)
    refine ⟨ps, ?_⟩
    show dcGo s c strict s.size 0 [] [] 0 = _
    rw [h]
    unfold dropM
    rw [if_neg (fun e => hh e.2)]
    rfl
theorem dec_auto (c : Nat) (hc : c = 1 ∨ c = 2 ∨ c = 3) (strict : Bool) (l : List Int) (ha : l.all (okc c) = true) (s : ByteArray) (hl : Lays s 0 ((65279 :: l).flatMap (enc c))) (hs : s.size = ((65279 :: l).flatMap (enc c)).length) :
    (bg s 0).1 = c ∧ ∃ ps, dcGo s c strict s.size (bg s 0).2 [] [] 0 = (none, l, ps, 0) := by
  obtain ⟨m1, m2, m3⟩ := mk_enc c hc
  rw [List.flatMap_cons] at hl hs
  rw [List.length_append] at hs
  have hbeg : begB s (mk c) = true := (beg_iff s (mk c)).2 (by rw [m1]; exact hl.left)
  have hno : ∀ d, (d = 1 ∨ d = 2) → d ≠ c → ¬ begB s (mk d) = true := fun d hd hdc e => by
    have e1 := (beg_iff s (mk d)).1 e
    have e2 := (beg_iff s (mk c)).1 hbeg
    have q1 : ∃ h : 0 < (nums (mk d)).length, (nums (mk d))[0] = if d = 1 then 239 else if d = 2 then 255 else 254 := by rcases hd with rfl | rfl <;> exact ⟨by decide, rfl⟩
    have q2 : ∃ h : 0 < (nums (mk c)).length, (nums (mk c))[0] = if c = 1 then 239 else if c = 2 then 255 else 254 := by rcases hc with rfl | rfl | rfl <;> exact ⟨by decide, rfl⟩
    obtain ⟨p1, q1⟩ := q1
    obtain ⟨p2, q2⟩ := q2
    have z1 := (e1 0 p1).2
    have z2 := (e2 0 p2).2
    rw [q1] at z1
    rw [q2] at z2
    rcases hd with rfl | rfl <;> rcases hc with rfl | rfl | rfl <;> simp at z1 z2 hdc <;> omega
  have hb : bg s 0 = (c, (mk c).size) := by
    show sn s 3 1 = _
    unfold sn
    rcases hc with rfl | rfl | rfl
    · rw [if_pos hbeg]
    · rw [if_neg (hno 1 (by omega) (by omega))]
      unfold sn
      rw [if_pos hbeg]
    · rw [if_neg (hno 1 (by omega) (by omega))]
      unfold sn
      rw [if_neg (hno 2 (by omega) (by omega))]
      unfold sn
      rw [if_pos hbeg]
  rw [hb]
  refine ⟨rfl, ?_⟩
  have hr := hl.right
  rw [Nat.zero_add, ← m2] at hr
  obtain ⟨ps, h⟩ := dc_fwd c (by omega) s strict l s.size (mk c).size [] [] 0 ha hr (by omega) (by omega)
  exact ⟨ps, h⟩
end Go.Proofs.YtpjnnbegimaaeaaDoor

/- The document's Encode, in every coding, of any numbers; conditions: those told. -/
namespace Go.Proofs.YtpjnnbegimaaeaaDoor
open Go.RowKit
open Go.Lib

/-- Bytes in a row of the call's own. -/
structure OwB (W0 wr : World) (v : Value) (o : List Int) : Prop where
  own : wr.ownsRow 0 5 1 v o.length (encB o)
  new : ∀ g, v.ownBlock = some g → W0.heap.size ≤ g
  touch : Touch (fun _ => False) W0 wr
theorem OwB.nil (w : World) : OwB w w (.slice none 0 0) [] := ⟨by simpa [encB] using World.ownsRow_nil _ _ _ _, by intro g h; simp [Value.ownBlock] at h, Touch.refl _ _⟩
theorem OwB.still {W0 wr w' : World} {v : Value} {o : List Int} (h : OwB W0 wr v o) (t : Touch (fun _ => False) wr w') : OwB W0 w' v o := by
  refine ⟨own_kept5 h.own (fun g hg => ?_), h.new, h.touch.trans t (fun _ _ e => e)⟩
  obtain ⟨cur, hc⟩ := own_block5 h.own hg
  exact t.block g (lt_of_block hc) id
theorem OwB.grow {W0 wr w1 : World} {v v' : Value} {o m : List Int} {s : ByteArray} (h : OwB W0 wr v o) (hm : nums s = m) (hown : w1.ownsRow 0 5 1 v' (o.length + s.size) (encB o ++ strCells s)) (hg : wr.grownBy w1 v.ownBlock) (hat : v'.ownBlock = v.ownBlock ∨ ∃ g, v'.ownBlock = some g ∧ wr.heap.size ≤ g) : OwB W0 w1 v' (o ++ m) := by
  subst hm
  have e1 : (nums s).length = s.size := by unfold nums; rw [List.length_map, Array.length_toList]; rfl
  have e2 : encB (nums s) = strCells s := by unfold encB nums strCells; rw [List.map_map]; rfl
  refine ⟨?_, fun g hg' => ?_, h.touch.grown hg (fun k e hk => by have := h.new k e; omega)⟩
  · rw [List.length_append, e1, encB, List.map_append]
    rw [← e2] at hown
    exact hown
  · rcases hat with e | ⟨g', e, hle⟩
    · exact h.new g (by rw [← e]; exact hg')
    · rw [e] at hg'
      simp at hg'
      have := h.touch.size
      omega
theorem nums_str (l : List Int) (h : ∀ b ∈ l, 0 ≤ b ∧ b ≤ 255) : nums (strOfNums l) = l := by
  unfold nums strOfNums
  rw [List.map_map]
  conv => rhs; rw [← List.map_id l]
  apply List.map_congr_left
  intro b hb
  have := h b hb
  show ((UInt8.ofNat b.toNat).toNat : Int) = b
  rw [UInt8.toNat_ofNat']
  omega
theorem wpList_append_str (w : World) {ops : Array Oper} {rest : List Oper} {o : Oper} {a : Act} {Q : Exit → Act → World → Prop} (hgd : o.guard = none) (s x : Operand)
    (ho : o.op = .call { callee := .builtin .append, args := #[s, x], argTypes := #[52, 9] })
    (v : Value) (n : Nat) (xs : List Value) (hs : a.eval s = v) (hown : w.ownsRow 0 5 1 v n xs) (t : ByteArray) (hx : a.eval x = .string t) (hb : n + t.size ≤ 140737488355328)
    (h : ∀ v' w', w'.ownsRow 0 5 1 v' (n + t.size) (xs ++ strCells t) → w.grownBy w' v.ownBlock → (v'.ownBlock = v.ownBlock ∨ ∃ g, v'.ownBlock = some g ∧ w.heap.size ≤ g) → wpList Tryd.prog ops Q rest (a.put o.dst v') w') : wpList Tryd.prog ops Q (o :: rest) a w := by
  obtain ⟨i0, hi5, hz0, hz1, hz2⟩ := info_parts info5i
  refine wpList_plain hgd fun K hK => ?_
  obtain ⟨v', w', hr, h2, h3, h4⟩ := run_append_string_at (P := Tryd.prog) w 52 9 o.type 5 i0 Tryd.underlying52 Tryd.underlying9 hi5 hz0 hz1 hz2 v n xs hown t (by unfold maxLen; omega) hb
  unfold Oper.wp execOp
  simp only [ho, resolve, invoke, builtin, Sem.run_bind, Sem.run_pure, Result.andThen_ok, List.map_toArray, List.map_cons, List.map_nil, hs, hx, hr]
  exact hK _ _ (h v' w' h2 h3 h4)
theorem enc_size (c : Nat) (r : Int) : (strOfNums (enc c r)).size ≤ 4 := by
  have h := enc_len c r
  show ((enc c r).map fun n => UInt8.ofNat n.toNat).toArray.size ≤ 4
  simpa using h

set_option maxRecDepth 100000 in
theorem rencode_out (a : Option Addr) (n k : Nat) (c : Int) (mark : Bool) (w : World) (h : c < 1 ∨ (1 ≤ c ∧ 4 < c)) : Calls Tryd.prog 16 #[.slice a n k, .int .i64 c, .bool mark] w fun e w' => e = .returned (.tuple #[.string ⟨#[]⟩, .int .i64 1]) ∧ Touch (fun _ => False) w w' := by
  have T := hid (Touch.refl (fun _ => False) w)
  rcases h with h | ⟨h0, h⟩
  · go_enter Tryd.func16, Tryd.ntmps16
    go_wp2
    refine bodyPost_ret (results_tmp2 rfl _ _ _) rfl ?_
    exact ⟨rfl, T.out⟩
  · have hn : ¬ (c < 1) := by omega
    go_enter Tryd.func16, Tryd.ntmps16
    go_wp2
    refine bodyPost_ret (results_tmp2 rfl _ _ _) rfl ?_
    exact ⟨rfl, T.out⟩

end Go.Proofs.YtpjnnbegimaaeaaDoor

/- The document's Encode in one coding (its number: 1), of any numbers; conditions: those told. -/
namespace Go.Proofs.YtpjnnbegimaaeaaDoor
open Go.RowKit
open Go.Lib

set_option maxRecDepth 100000 in
set_option maxHeartbeats 8000000 in
theorem rencode_1 (a : Option Addr) (k : Nat) (l : List Int) (mark : Bool) (w : World) (hx : Ix w a l) (hb : l.length ≤ 1048576) :
    Calls Tryd.prog 16 #[.slice a l.length k, .int .i64 1, .bool mark] w fun e w' => e = .returned (encR 1 mark l) ∧ Touch (fun _ => False) w w' := by
  have HX := hid hx
  have OW := hid (OwB.nil w)
  clear hx
  go_enter Tryd.func16, Tryd.ntmps16
  go_upto_if 16 with fail
  go_cut [8] (fun v wd => OwB w wd v (if mark then nums (mk 1) else []))
  case first =>
    cases mark
    · go_wp2
      go_meet
      case rel => exact OW.out
    · have KM := hid (mark_one w)
      have hms := mk_size 1
      generalize mk 1 = m at *
      go_wp2_with fail
      refine KM.out.mono ?_
      rintro e w1 ⟨rfl, t1⟩
      replace OW := hid (OW.out.still t1)
      clear t1 KM
      go_wp2_with (at_builtin; refine wpList_append_str _ rfl _ _ rfl _ 0 [] rfl OW.out.own m rfl (by omega) ?_)
      intro v' w2 hown hgrow hat
      have O2 := hid (OW.out.grow (s := m) rfl (by simpa [encB] using hown) hgrow hat)
      clear hown hgrow hat OW
      go_wp2
      go_meet
      case rel => exact O2.out
  obtain ⟨m0, hm0⟩ : ∃ m0, m0 = (if mark then nums (mk 1) else []) := ⟨_, rfl⟩
  have hml : m0.length ≤ 3 := by
    rw [hm0]
    cases mark
    · simp
    · exact Nat.le_trans (Nat.le_of_eq (by rw [if_pos rfl]; unfold nums; rw [List.length_map, Array.length_toList]; rfl)) (mk_size 1)
  rw [← hm0] at hcut
  have HM0 := hid hm0
  have H0 := hid hcut
  clear hm0 hcut OW
  go_wp2_with fail
  go_loopg [8, 9] l.length (fun gk v8 v9 wq => ∃ i : Nat, i + gk = l.length ∧ v9 = .int .i64 (i : Nat) ∧ OwB w wq v8 (m0 ++ (l.take i).flatMap (enc 1)) ∧ (l.take i).all (okc 1) = true)
  case atStart => exact ⟨0, by omega, rfl, by simpa using H0.out, rfl⟩
  case round =>
    obtain ⟨i, hi, rfl, how, hall⟩ := hrel
    have HA := hid hall
    have O := hid how
    clear hall how H0
    obtain ⟨o', ho'⟩ : ∃ o', o' = m0 ++ (l.take i).flatMap (enc 1) := ⟨_, rfl⟩
    have hol : o'.length ≤ 549755813888 := by have h1 := flat_len 1 (l.take i); have h2 := List.length_take_le' i l; rw [ho', List.length_append]; omega
    rw [← ho'] at O
    have HO := hid ho'
    clear ho'
    obtain ⟨av, kv, hv⟩ := own_shape O.out.own
    subst hv
    by_cases hlt : i < l.length
    · have hltI : (i : Int) < (l.length : Int) := by omega
      have HBAD := hid (encR_bad (c := 1) (mark := mark) i hlt)
      have HAL := hid (all_take (p := okc 1) hlt HA.out)
      have HT2 := hid (flat_more 1 l i hlt m0)
      obtain ⟨y, rfl, hc1⟩ := (HX.out.new O.out.touch).resolve_left (fun z => by rw [z] at hlt; simp at hlt)
      have d1 := hc1 i hlt
      obtain ⟨x, hxe⟩ : ∃ x, l[i] = x := ⟨_, rfl⟩
      rw [hxe, ← HO.out] at HT2
      rw [hxe] at d1 HBAD HAL
      have KS := hid (fun w => rscalar_any x w)
      clear hc1 hxe
      cases hs : scB x
      · rw [hs] at KS
        replace HBAD := hid (HBAD.out (by unfold okc; rw [hs]; rfl))
        clear hs
        go_wp2_with fail
        refine (KS.out _).mono ?_
        rintro e w5 ⟨rfl, rfl⟩
        clear KS
        go_wp2
        refine bodyPost_ret (results_tmp2 rfl _ _ _) rfl ?_
        exact ⟨by rw [HBAD.out]; rfl, O.out.touch⟩
      · rw [hs] at KS
        have HOK := hid (show okc 1 x = true by unfold okc; rw [hs]; rfl)
        replace HAL := hid (HAL.out HOK.out)
        have KB : Hid (∀ w, Calls Tryd.prog 25 #[.int .i64 x, .int .i64 1] w fun e w' => e = .returned (.string (strOfNums (enc 1 x))) ∧ Touch (fun _ => False) w w') := hid (fun w => bytes_any 1 (by decide) x HOK.out w)
        have HNM := hid (nums_str (enc 1 x) (enc_in 1 (by decide) x HOK.out))
        have hsz := enc_size 1 x
        generalize strOfNums (enc 1 x) = tb at *
        clear hs HOK
        go_wp2_with fail
        refine (KS.out _).mono ?_
        rintro e w5 ⟨rfl, rfl⟩
        clear KS
        go_wp2_with fail
        refine (KB.out _).mono ?_
        rintro e w6 ⟨rfl, t6⟩
        replace O := hid (O.out.still t6)
        clear t6 KB
        go_wp2_with (at_builtin; refine wpList_append_str _ rfl _ _ rfl _ _ _ rfl O.out.own tb rfl (by omega) ?_)
        intro v' w7 hown hgrow hat
        have O7 := hid (O.out.grow HNM.out hown hgrow hat)
        rw [← HT2.out] at O7
        clear hown hgrow hat O
        go_wp2
        go_roundg (gk - 1)
        case measure => omega
        case rel => exact ⟨i + 1, by omega, by go_num, O7.out, HAL.out⟩
    · have hltI : ¬ ((i : Int) < (l.length : Int)) := by omega
      have hti : l.take i = l := List.take_of_length_le (by omega)
      have HE := hid (show encR 1 mark l = .tuple #[.string (strOfNums o'), .int .i64 0] by
        have h1 := HA.out
        rw [hti] at h1
        unfold encR
        rw [if_pos h1, HO.out, hti, HM0.out])
      clear hti
      have hcv := conv_own O.out.own
      go_wp2
      refine bodyPost_ret (results_tmp2 rfl _ _ _) rfl ?_
      exact ⟨by rw [HE.out]; rfl, O.out.touch⟩
end Go.Proofs.YtpjnnbegimaaeaaDoor

/- The document's Encode in one coding (its number: 2), of any numbers; conditions: those told. -/
namespace Go.Proofs.YtpjnnbegimaaeaaDoor
open Go.RowKit
open Go.Lib

set_option maxRecDepth 100000 in
set_option maxHeartbeats 8000000 in
theorem rencode_2 (a : Option Addr) (k : Nat) (l : List Int) (mark : Bool) (w : World) (hx : Ix w a l) (hb : l.length ≤ 1048576) :
    Calls Tryd.prog 16 #[.slice a l.length k, .int .i64 2, .bool mark] w fun e w' => e = .returned (encR 2 mark l) ∧ Touch (fun _ => False) w w' := by
  have HX := hid hx
  have OW := hid (OwB.nil w)
  clear hx
  go_enter Tryd.func16, Tryd.ntmps16
  go_upto_if 16 with fail
  go_cut [8] (fun v wd => OwB w wd v (if mark then nums (mk 2) else []))
  case first =>
    cases mark
    · go_wp2
      go_meet
      case rel => exact OW.out
    · have KM := hid (mark_two w)
      have hms := mk_size 2
      generalize mk 2 = m at *
      go_wp2_with fail
      refine KM.out.mono ?_
      rintro e w1 ⟨rfl, t1⟩
      replace OW := hid (OW.out.still t1)
      clear t1 KM
      go_wp2_with (at_builtin; refine wpList_append_str _ rfl _ _ rfl _ 0 [] rfl OW.out.own m rfl (by omega) ?_)
      intro v' w2 hown hgrow hat
      have O2 := hid (OW.out.grow (s := m) rfl (by simpa [encB] using hown) hgrow hat)
      clear hown hgrow hat OW
      go_wp2
      go_meet
      case rel => exact O2.out
  obtain ⟨m0, hm0⟩ : ∃ m0, m0 = (if mark then nums (mk 2) else []) := ⟨_, rfl⟩
  have hml : m0.length ≤ 3 := by
    rw [hm0]
    cases mark
    · simp
    · exact Nat.le_trans (Nat.le_of_eq (by rw [if_pos rfl]; unfold nums; rw [List.length_map, Array.length_toList]; rfl)) (mk_size 2)
  rw [← hm0] at hcut
  have HM0 := hid hm0
  have H0 := hid hcut
  clear hm0 hcut OW
  go_wp2_with fail
  go_loopg [8, 9] l.length (fun gk v8 v9 wq => ∃ i : Nat, i + gk = l.length ∧ v9 = .int .i64 (i : Nat) ∧ OwB w wq v8 (m0 ++ (l.take i).flatMap (enc 2)) ∧ (l.take i).all (okc 2) = true)
  case atStart => exact ⟨0, by omega, rfl, by simpa using H0.out, rfl⟩
  case round =>
    obtain ⟨i, hi, rfl, how, hall⟩ := hrel
    have HA := hid hall
    have O := hid how
    clear hall how H0
    obtain ⟨o', ho'⟩ : ∃ o', o' = m0 ++ (l.take i).flatMap (enc 2) := ⟨_, rfl⟩
    have hol : o'.length ≤ 549755813888 := by have h1 := flat_len 2 (l.take i); have h2 := List.length_take_le' i l; rw [ho', List.length_append]; omega
    rw [← ho'] at O
    have HO := hid ho'
    clear ho'
    obtain ⟨av, kv, hv⟩ := own_shape O.out.own
    subst hv
    by_cases hlt : i < l.length
    · have hltI : (i : Int) < (l.length : Int) := by omega
      have HBAD := hid (encR_bad (c := 2) (mark := mark) i hlt)
      have HAL := hid (all_take (p := okc 2) hlt HA.out)
      have HT2 := hid (flat_more 2 l i hlt m0)
      obtain ⟨y, rfl, hc1⟩ := (HX.out.new O.out.touch).resolve_left (fun z => by rw [z] at hlt; simp at hlt)
      have d1 := hc1 i hlt
      obtain ⟨x, hxe⟩ : ∃ x, l[i] = x := ⟨_, rfl⟩
      rw [hxe, ← HO.out] at HT2
      rw [hxe] at d1 HBAD HAL
      have KS := hid (fun w => rscalar_any x w)
      clear hc1 hxe
      cases hs : scB x
      · rw [hs] at KS
        replace HBAD := hid (HBAD.out (by unfold okc; rw [hs]; rfl))
        clear hs
        go_wp2_with fail
        refine (KS.out _).mono ?_
        rintro e w5 ⟨rfl, rfl⟩
        clear KS
        go_wp2
        refine bodyPost_ret (results_tmp2 rfl _ _ _) rfl ?_
        exact ⟨by rw [HBAD.out]; rfl, O.out.touch⟩
      · rw [hs] at KS
        have HOK := hid (show okc 2 x = true by unfold okc; rw [hs]; rfl)
        replace HAL := hid (HAL.out HOK.out)
        have KB : Hid (∀ w, Calls Tryd.prog 25 #[.int .i64 x, .int .i64 2] w fun e w' => e = .returned (.string (strOfNums (enc 2 x))) ∧ Touch (fun _ => False) w w') := hid (fun w => bytes_any 2 (by decide) x HOK.out w)
        have HNM := hid (nums_str (enc 2 x) (enc_in 2 (by decide) x HOK.out))
        have hsz := enc_size 2 x
        generalize strOfNums (enc 2 x) = tb at *
        clear hs HOK
        go_wp2_with fail
        refine (KS.out _).mono ?_
        rintro e w5 ⟨rfl, rfl⟩
        clear KS
        go_wp2_with fail
        refine (KB.out _).mono ?_
        rintro e w6 ⟨rfl, t6⟩
        replace O := hid (O.out.still t6)
        clear t6 KB
        go_wp2_with (at_builtin; refine wpList_append_str _ rfl _ _ rfl _ _ _ rfl O.out.own tb rfl (by omega) ?_)
        intro v' w7 hown hgrow hat
        have O7 := hid (O.out.grow HNM.out hown hgrow hat)
        rw [← HT2.out] at O7
        clear hown hgrow hat O
        go_wp2
        go_roundg (gk - 1)
        case measure => omega
        case rel => exact ⟨i + 1, by omega, by go_num, O7.out, HAL.out⟩
    · have hltI : ¬ ((i : Int) < (l.length : Int)) := by omega
      have hti : l.take i = l := List.take_of_length_le (by omega)
      have HE := hid (show encR 2 mark l = .tuple #[.string (strOfNums o'), .int .i64 0] by
        have h1 := HA.out
        rw [hti] at h1
        unfold encR
        rw [if_pos h1, HO.out, hti, HM0.out])
      clear hti
      have hcv := conv_own O.out.own
      go_wp2
      refine bodyPost_ret (results_tmp2 rfl _ _ _) rfl ?_
      exact ⟨by rw [HE.out]; rfl, O.out.touch⟩
end Go.Proofs.YtpjnnbegimaaeaaDoor
