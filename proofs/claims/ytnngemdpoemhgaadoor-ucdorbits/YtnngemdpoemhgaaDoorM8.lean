/- Texts of this proof, one behind the other: what each says stands ahead of it. -/
import Derived.Test.YtnngemdpoemhgaaDoorM2
import Derived.Test.YtnngemdpoemhgaaDoorM4
import Derived.Test.YtnngemdpoemhgaaDoorM7
import Derived.Test.YtnngemdpoemhgaaDoorM6
/- The document's in: is a number in one of the ranges; no condition beside those told. -/
namespace Go.Proofs.YtnngemdpoemhgaaDoor
open Go.RowKit

/-- Both ends of each range, one behind the other. -/
def ends (l : List R2) : List Int := l.flatMap fun r => [r.1, r.2]
theorem ends_len (l : List R2) : (ends l).length = l.length * 2 := by
  induction l with
  | nil => rfl
  | cons x r ih => simp only [ends, List.flatMap_cons, List.length_append, List.length_cons] at ih ⊢; rw [ih]; simp; omega
theorem flat_ends (l : List R2) : flatR l = (ends l).map (Value.int .i64) := by
  induction l with
  | nil => rfl
  | cons x r ih => simp only [flatR, ends, List.flatMap_cons, List.map_append] at ih ⊢; rw [ih]; rfl
theorem ends_get (l : List R2) (i : Nat) (h : i < l.length) : (ends l)[2 * i]? = some (l[i]).1 ∧ (ends l)[2 * i + 1]? = some (l[i]).2 := by
  have h0 := flatR_get0 l i h
  have h1 := flatR_get1 l i h
  rw [flat_ends, List.getElem?_map] at h0 h1
  obtain ⟨a, ha, e⟩ := Option.map_eq_some_iff.1 h0
  obtain ⟨b, hb, f⟩ := Option.map_eq_some_iff.1 h1
  injection e with _ e
  injection f with _ f
  rw [ha, hb, e, f]
  exact ⟨rfl, rfl⟩
theorem ig_alloc (w : World) (e : List Int) (t : TypeId) : Ig (w.alloc (.cells (e.map (Value.int .i64)).toArray t)) (some ⟨w.heap.size, 0, none⟩) e := by
  refine ⟨w.heap.size, rfl, by simp, fun i hi => ?_⟩
  have := row_new w (e.map (Value.int .i64)) t i (.int .i64 e[i]) (by simp [hi])
  rwa [add_g] at this
theorem hasB_step (l : List R2) (k : Nat) (h : k < l.length) (x : Int) : hasB x (l.take (k + 1)) = (hasB x (l.take k) || (decide ((l[k]).1 ≤ x) && decide (x ≤ (l[k]).2))) := by
  unfold hasB
  rw [List.take_succ_eq_append_getElem h, List.any_append]
  simp only [List.any_cons, List.any_nil, Bool.or_false]
theorem hasB_found (l : List R2) (k : Nat) (h : k < l.length) (x : Int) (h1 : (l[k]).1 ≤ x) (h2 : x ≤ (l[k]).2) : hasB x l = true := hasB_iff.2 ⟨l[k], List.getElem_mem _, h1, h2⟩

set_option maxRecDepth 100000 in
set_option maxHeartbeats 4000000 in
theorem in43 (a : Option Addr) (cap : Nat) (l : List R2) (x : Int) (w : World) (hi : Ig w a (ends l)) (hb : l.length ≤ 100) :
    Calls Tryd.prog 43 #[.slice a (ends l).length cap, .int .i64 x] w fun e w' => e = .returned (.bool (hasB x l)) ∧ w = w' := by
  obtain ⟨b, rfl, _, hc⟩ := hi
  have HC := hid hc
  clear hc
  rw [ends_len]
  go_enter Tryd.func43, Tryd.ntmps43
  go_wp2_with fail
  go_loopg [5] l.length (fun gk i wr => ∃ k : Nat, k + gk = l.length ∧ i = .int .i64 ((2 * k : Nat) : Int) ∧ hasB x (l.take k) = false ∧ w = wr)
  case atStart => exact ⟨0, by omega, rfl, rfl, rfl⟩
  case round =>
    obtain ⟨k, hk, rfl, hno, rfl⟩ := hrel
    have HN := hid hno
    clear hno
    by_cases hlt : k < l.length
    · obtain ⟨g0, g1⟩ := ends_get l k hlt
      have hl := ends_len l
      have d0 := HC.out (2 * k) (by omega)
      have d1 := HC.out (2 * k + 1) (by omega)
      rw [show (ends l)[2 * k]'(by omega) = (l[k]).1 by rw [List.getElem?_eq_getElem (by omega)] at g0; exact Option.some.inj g0] at d0
      rw [show (ends l)[2 * k + 1]'(by omega) = (l[k]).2 by rw [List.getElem?_eq_getElem (by omega)] at g1; exact Option.some.inj g1] at d1
      have HS := hid (hasB_step l k hlt x)
      have HF := hid (hasB_found l k hlt x)
      rw [HN.out] at HS
      obtain ⟨r, hr⟩ : ∃ r, r = l[k] := ⟨_, rfl⟩
      rw [← hr] at d0 d1 HS HF
      obtain ⟨y, z⟩ := r
      dsimp only at d0 d1 HS HF
      clear g0 g1 hl hr
      by_cases h1 : y ≤ x
      · by_cases h2 : x ≤ z
        · have HT := hid (HF.out h1 h2)
          go_wp2
          go_ret
          rw [HT.out]
          exact ⟨rfl, rfl⟩
        · have HH := hid (show hasB x (l.take (k + 1)) = false by rw [HS.out]; simp [h2])
          go_wp2
          go_roundg (gk - 1)
          case measure => omega
          case rel => exact ⟨k + 1, by omega, by go_num, HH.out, rfl⟩
      · have HH := hid (show hasB x (l.take (k + 1)) = false by rw [HS.out]; simp [h1])
        go_wp2
        go_roundg (gk - 1)
        case measure => omega
        case rel => exact ⟨k + 1, by omega, by go_num, HH.out, rfl⟩
    · obtain rfl : k = l.length := by omega
      rw [List.take_length] at HN
      go_wp2
      go_ret
      rw [HN.out]
      exact ⟨rfl, rfl⟩

end Go.Proofs.YtnngemdpoemhgaaDoor

/- The document's add: a number into a rising list; condition: the list is short. -/
namespace Go.Proofs.YtnngemdpoemhgaaDoor
open Go.RowKit

theorem info3i : (Tryd.prog.info? 3).map (fun i => (i.zero, i.size, i.bytes)) = some (some (.int .i64 0), 1, 8) := by kernel_rfl
/-- Numbers that lie somewhere in a block. -/
def Io (w : World) (a : Option Addr) (l : List Int) : Prop := l = [] ∨ ∃ b o, a = some ⟨b, o, none⟩ ∧ ∀ i (h : i < l.length), w.cell? ⟨b, o + i, none⟩ = some (.int .i64 l[i])
theorem run_append_noneI (w : World) (ty : TypeId) (v : Value) (n : Nat) (xs : List Value) (hown : w.ownsRow 0 3 1 v n xs) (a : Option Addr) (c : Nat) :
    (Builtin.append_ #[23, 23] ty #[v, .slice a 0 c]).run Tryd.prog w = .ok v w := by
  obtain ⟨i0, hin, hz0, hz1, hz2⟩ := info_parts info3i
  have hld : ∀ ad, (loadCells ad 0).run Tryd.prog w = .ok #[] w := fun ad => rfl
  rcases hown.2 with ⟨rfl, rfl⟩ | ⟨g, cap, cur, rfl, hbg, hg, hnc, hcm, hcs, htake⟩ <;> cases a <;>
    simp [Builtin.append_, run_underlying Tryd.underlying23, sizeOf, typeInfo, Builtin.lenOf, Builtin.firstCells, storeCells, *]
theorem run_append_io (w : World) (ty : TypeId) (v : Value) (n : Nat) (xs : List Value) (hown : w.ownsRow 0 3 1 v n xs) (a : Option Addr) (c : Nat) (l : List Int) (hl : Io w a l) (hb : (n + l.length) * 8 ≤ 140737488355328) :
    ∃ v' w', (Builtin.append_ #[23, 23] ty #[v, .slice a l.length c]).run Tryd.prog w = .ok v' w' ∧ w'.ownsRow 0 3 1 v' (n + l.length) (xs ++ encI l) ∧ w.grownBy w' v.ownBlock ∧ (v'.ownBlock = v.ownBlock ∨ v'.ownBlock = some w.heap.size) := by
  obtain ⟨i0, hin, hz0, hz1, hz2⟩ := info_parts info3i
  rcases hl with rfl | ⟨b, o, rfl, hc⟩
  · refine ⟨v, w, run_append_noneI w ty v n xs hown a c, ?_, ⟨rfl, rfl, rfl, Nat.le_refl _, fun _ _ _ => rfl⟩, .inl rfl⟩
    rw [show encI [] = [] from rfl, List.append_nil]
    exact hown
  · obtain ⟨v', w', h1, h2, h3, _, h4⟩ := run_append_own_at (P := Tryd.prog) w 0 23 ty 3 i0 (.int .i64 0) 1 8 Tryd.underlying23 hin hz0 hz1 hz2 rfl (by decide) v n xs hown ⟨b, o, none⟩ l.length c (encI l) (by simp [encI]) (fun j u hj => by
        rw [add_o]
        unfold encI at hj
        rw [List.getElem?_map] at hj
        obtain ⟨z, hz, rfl⟩ := Option.map_eq_some_iff.1 hj
        obtain ⟨hlt, rfl⟩ := List.getElem?_eq_some_iff.1 hz
        exact hc j hlt) (by intro u hu; obtain ⟨z, _, rfl⟩ := List.mem_map.1 hu; rfl) (by unfold maxLen; omega) hb (Nat.zero_le _)
    exact ⟨v', w', h1, h2, h3, h4⟩
theorem wpList_append_io (w : World) {ops : Array Oper} {rest : List Oper} {o : Oper} {a : Act} {Q : Exit → Act → World → Prop} (hgd : o.guard = none) (s x : Operand)
    (ho : o.op = .call { callee := .builtin .append, args := #[s, x], argTypes := #[23, 23] })
    (v : Value) (n : Nat) (xs : List Value) (hs : a.eval s = v) (hown : w.ownsRow 0 3 1 v n xs) (ad : Option Addr) (c : Nat) (l : List Int) (m : Nat) (hm : m = l.length) (hx : a.eval x = .slice ad m c) (hl : Io w ad l) (hb : (n + l.length) * 8 ≤ 140737488355328)
    (h : ∀ v' w', w'.ownsRow 0 3 1 v' (n + l.length) (xs ++ encI l) → w.grownBy w' v.ownBlock → (v'.ownBlock = v.ownBlock ∨ v'.ownBlock = some w.heap.size) → wpList Tryd.prog ops Q rest (a.put o.dst v') w') : wpList Tryd.prog ops Q (o :: rest) a w := by
  subst hm
  refine wpList_plain hgd fun K hK => ?_
  obtain ⟨v', w', hr, h2, h3, h4⟩ := run_append_io w o.type v n xs hown ad c l hl hb
  unfold Oper.wp execOp
  simp only [ho, resolve, invoke, builtin, Sem.run_bind, Sem.run_pure, Result.andThen_ok, List.map_toArray, List.map_cons, List.map_nil, hs, hx, hr]
  exact hK _ _ (h v' w' h2 h3 h4)
theorem OwI.grow {W0 wr w1 : World} {v v' : Value} {e m : List Int} (h : OwI W0 wr v e) (hown : w1.ownsRow 0 3 1 v' (e.length + m.length) (encI e ++ encI m)) (hg : wr.grownBy w1 v.ownBlock) (hat : v'.ownBlock = v.ownBlock ∨ v'.ownBlock = some wr.heap.size) : OwI W0 w1 v' (e ++ m) := by
  refine ⟨?_, fun g hg' => ?_, h.touch.grown hg (fun k e hk => by have := h.new k e; omega)⟩
  · rw [List.length_append, encI, List.map_append]
    exact hown
  · rcases hat with e | e
    · exact h.new g (by rw [← e]; exact hg')
    · rw [e] at hg'
      simp at hg'
      have := h.touch.size
      omega
theorem OwI.nil (w : World) : OwI w w (.slice none 0 0) [] := ⟨by simpa [encI] using World.ownsRow_nil _ _ _ _, by intro g h; simp [Value.ownBlock] at h, Touch.refl _ _⟩

theorem tw_take (p : Int → Bool) : ∀ (l : List Int), l.take (l.takeWhile p).length = l.takeWhile p ∧ l.drop (l.takeWhile p).length = l.dropWhile p
  | [] => by simp
  | x :: l => by
    cases hx : p x
    · simp [hx]
    · have := tw_take p l
      simp [hx, this]
theorem tw_lt (p : Int → Bool) : ∀ (l : List Int) (k : Nat) (h : k < l.length), (k < (l.takeWhile p).length → p l[k] = true) ∧ (k = (l.takeWhile p).length → p l[k] = false)
  | [], k, h => by simp at h
  | x :: l, k, h => by
    cases hx : p x
    · simp only [List.takeWhile_cons, hx, Bool.false_eq_true, if_false, List.length_nil]
      exact ⟨fun q => by omega, fun q => by subst q; exact hx⟩
    · simp only [List.takeWhile_cons, hx, if_true, List.length_cons]
      match k, h with
      | 0, _ => exact ⟨fun _ => hx, fun q => by omega⟩
      | k + 1, h =>
        have := tw_lt p l k (by simpa using h)
        exact ⟨fun q => this.1 (by omega), fun q => this.2 (by omega)⟩
theorem tw_le (p : Int → Bool) (l : List Int) : (l.takeWhile p).length ≤ l.length := by
  have := congrArg List.length (tw_take p l).1
  rw [List.length_take] at this
  omega

theorem run_slice_from (w : World) (ad : Option Addr) (len cap i : Nat) (hi : i ≤ len) : (Instr.sliceAt 23 (.slice ad len cap) (some (.int .i64 (i : Int))) none none).run Tryd.prog w = .ok (sliced ad i len cap 1) w := by
  obtain ⟨i0, hin, hz0, hz1, hz2⟩ := info_parts info3i
  have hib : (i : Int) ≤ (len : Int) := by omega
  simp [Instr.sliceAt, Instr.slice, run_underlying Tryd.underlying23, Instr.sliceBounds, run_sliceBound, sliced, sizeOf, typeInfo, hin, hz1, hib]
theorem wpList_slice_from (w : World) {ops : Array Oper} {rest : List Oper} {o : Oper} {a : Act} {Q : Exit → Act → World → Prop} (hgd : o.guard = none) (x lo : Operand)
    (ho : o.op = .slice 23 x (some lo) none none) (ad : Option Addr) (len cap i : Nat) (j : Int) (hx : a.eval x = .slice ad len cap) (hl : a.eval lo = .int .i64 j) (hj : j = (i : Int)) (hi : i ≤ len) (v : Value) (hv : sliced ad i len cap 1 = v)
    (h : wpList Tryd.prog ops Q rest (a.put o.dst v) w) : wpList Tryd.prog ops Q (o :: rest) a w := by
  subst hj hv
  refine wpList_plain hgd fun K hK => ?_
  unfold Oper.wp execOp
  simp only [ho, Sem.run_bind, Option.map, hx, hl, run_slice_from w ad len cap i hi]
  exact hK _ _ h
theorem tail_io (a : Option Addr) (cap i : Nat) (l : List Int) (w : World) (hi : (l = [] ∧ a = none ∧ cap = 0) ∨ Ig w a l) (hc : l.length ≤ cap) (hil : i ≤ l.length) : ∃ ad c, sliced a i l.length cap 1 = .slice ad (l.drop i).length c ∧ Io w ad (l.drop i) := by
  refine ⟨_, cap - i, by rw [sliced, List.length_drop], ?_⟩
  by_cases hq : cap = i
  · exact .inl (List.drop_eq_nil_of_le (by omega))
  · rcases hi with ⟨rfl, rfl, rfl⟩ | ⟨b, rfl, _, hcl⟩
    · exact .inl (by simp)
    · refine .inr ⟨b, i, ?_, fun j hj => ?_⟩
      · rw [if_neg hq]
        show some (Addr.add ⟨b, 0, none⟩ (i * 1)) = _
        rw [add_o, Nat.zero_add, Nat.mul_one]
      · rw [List.getElem_drop]
        exact hcl (i + j) (by rw [List.length_drop] at hj; omega)

set_option maxRecDepth 100000 in
set_option maxHeartbeats 8000000 in
theorem add_any (a : Option Addr) (cap : Nat) (l : List Int) (n : Int) (w : World) (hi : (l = [] ∧ a = none ∧ cap = 0) ∨ Ig w a l) (hc : l.length ≤ cap) (hb : l.length ≤ 1000) :
    Calls Tryd.prog 28 #[.slice a l.length cap, .int .i64 n] w fun e w' => ∃ v, e = .returned v ∧ OwI w w' v (addL l n) := by
  obtain ⟨i0, hi3, hz0, hz1, hz2⟩ := info_parts info3i
  have HI := hid hi
  have HCC := hid hc
  clear hi hc
  obtain ⟨p, hp⟩ : ∃ p : Int → Bool, p = fun y => decide (y < n) := ⟨_, rfl⟩
  have HP := hid hp
  have HA := hid (show addL l n = l.takeWhile p ++ n :: (match l.dropWhile p with | [] => [] | y :: r => if y = n then r else y :: r) by rw [hp]; rfl)
  clear hp
  obtain ⟨K, hK⟩ : ∃ K, K = (l.takeWhile p).length := ⟨_, rfl⟩
  have hKl : K ≤ l.length := by rw [hK]; exact tw_le p l
  have HTK := hid (tw_take p l)
  have HLT := hid (tw_lt p l)
  rw [← hK] at HTK HLT
  clear hK
  go_enter Tryd.func28, Tryd.ntmps28
  go_wp2_with fail
  go_loopg [5, 6] K (fun gk v i wr => ∃ k : Nat, k + gk = K ∧ i = .int .i64 (k : Nat) ∧ OwI w wr v (l.take k))
  case atStart => exact ⟨0, by omega, rfl, OwI.nil w⟩
  case round =>
    obtain ⟨k, hk, rfl, how⟩ := hrel
    have OW := hid how
    obtain ⟨av, cv, hav⟩ := own_shape how.own
    subst hav
    have HIW := hid (HI.out.imp id (fun h => h.new how.touch))
    clear how
    have htl : (l.take k).length = k := by rw [List.length_take]; omega
    rw [htl] at OW ⊢
    by_cases hlt : k < K
    · obtain ⟨b, rfl, _, hcl⟩ : Ig wr a l := by
        rcases HIW.out with ⟨e, _⟩ | h
        · rw [e] at hKl; simp at hKl; omega
        · exact h
      have d0 := hcl k (by omega)
      have hx := (HLT.out k (by omega)).1 hlt
      have HST := hid (show l.take (k + 1) = l.take k ++ [l[k]'(by omega)] by rw [List.take_succ_eq_append_getElem])
      rw [HP.out] at hx
      generalize l[k]'(by omega) = x at *
      have hxn : x < n := of_decide_eq_true hx
      have hkI : (k : Int) < (l.length : Int) := by omega
      obtain ⟨s, hs⟩ : ∃ s, s = l.take k := ⟨_, rfl⟩
      have hsl : s.length = k := by rw [hs]; exact htl
      rw [← hs] at OW HST
      clear hs hcl HIW hx htl
      go_wp2_with (at_builtin; refine wpList_append_own_at _ rfl _ _ 23 rfl 0 3 i0 (.int .i64 0) 1 8 Tryd.underlying23 hi3 hz0 hz1 hz2 rfl (by decide) _ _ _ rfl (OW.out.own.alloc _) ⟨wr.heap.size, 0, none⟩ 1 1 [.int .i64 x] rfl rfl (row_new wr [.int .i64 x] 3) (by intro u hu; simp at hu; subst hu; rfl) (by unfold maxLen; omega) (by omega) (Nat.zero_le _) ?_)
      intro v' w4 hown hgrow _ hat
      have OC := hid (OW.out.more (by rw [hsl]; exact hown) hgrow hat)
      clear hown hgrow hat
      go_wp2
      go_roundg (gk - 1)
      case measure => omega
      case rel => exact ⟨k + 1, by omega, by go_num, by rw [HST.out]; exact OC.out⟩
    · obtain rfl : k = K := by omega
      rw [HTK.out.1] at OW
      obtain ⟨s, hs⟩ : ∃ s, s = l.takeWhile p := ⟨_, rfl⟩
      have hsl : s.length = k := by rw [hs, ← HTK.out.1]; exact htl
      rw [← hs] at OW HA
      clear hs hlt htl
      rcases Nat.lt_or_ge k l.length with hlt | hge
      · have hig0 : Ig w a l := by
          rcases HI.out with ⟨e, _⟩ | h
          · rw [e] at hlt; simp at hlt
          · exact h
        have HIG := hid hig0
        clear HI
        obtain ⟨b, rfl, hbw, hcl⟩ := hig0.new OW.out.touch
        clear hig0
        have d0 := hcl k hlt
        have hx := (HLT.out k hlt).2 rfl
        rw [HP.out] at hx
        have HDW := hid (show l.dropWhile p = l[k] :: l.drop (k + 1) by rw [← HTK.out.2, List.drop_eq_getElem_cons hlt])
        rw [HDW.out] at HA
        obtain ⟨x, hxk⟩ : ∃ x, l[k] = x := ⟨_, rfl⟩
        rw [hxk] at d0 hx HA
        have HXK := hid hxk
        clear hxk
        have hxn : ¬ x < n := of_decide_eq_false hx
        have hkI : (k : Int) < (l.length : Int) := by omega
        clear hcl hx HIW HDW
        have OWT := hid OW.out.touch
        go_wp2_with (at_builtin; refine wpList_append_own_at _ rfl _ _ 23 rfl 0 3 i0 (.int .i64 0) 1 8 Tryd.underlying23 hi3 hz0 hz1 hz2 rfl (by decide) _ _ _ rfl (OW.out.own.alloc _) ⟨wr.heap.size, 0, none⟩ 1 1 [.int .i64 n] rfl rfl (row_new wr [.int .i64 n] 3) (by intro u hu; simp at hu; subst hu; rfl) (by unfold maxLen; omega) (by omega) (Nat.zero_le _) ?_)
        intro v' w4 hown hgrow _ hat
        have OC := hid (OW.out.more (by rw [hsl]; exact hown) hgrow hat)
        clear hown hgrow hat OW d0
        obtain ⟨b', hb', _, hcl⟩ := HIG.out.new OC.out.touch
        simp only [Option.some.injEq, Addr.mk.injEq, and_true] at hb'
        subst hb'
        have d1 := hcl k hlt
        rw [HXK.out] at d1
        have HCL := hid hcl
        clear hcl
        have hsn0 : (s ++ [n]).length = k + 1 := by rw [List.length_append, hsl]; rfl
        obtain ⟨s2, hs2⟩ : ∃ s2, s2 = s ++ [n] := ⟨_, rfl⟩
        rw [← hs2] at OC hsn0
        have HS2 := hid hs2
        clear hs2
        obtain ⟨a5, c5, hv5⟩ := own_shape OC.out.own
        subst hv5
        have hcc := HCC.out
        have HSN := hid hsn0
        have hsn : s2.length ≤ 2000 := by omega
        clear hsn0
        by_cases hxe : x = n
        · subst hxe
          have HAF := hid (show addL l x = (s ++ [x]) ++ l.drop (k + 1) by rw [HA.out]; simp)
          obtain ⟨ad, cd, hsl2, hio⟩ := tail_io (some ⟨b, 0, none⟩) cap (k + 1) l w4 (.inr (HIG.out.new OC.out.touch)) hcc (by omega)
          have hDl : (l.drop (k + 1)).length ≤ 1000 := by rw [List.length_drop]; omega
          generalize l.drop (k + 1) = D at *
          have HSL := hid hsl2
          have IO := hid hio
          clear hsl2 hio
          go_wp2_with (first | refine wpList_slice_from _ rfl _ _ rfl _ _ _ (k + 1) _ rfl rfl (by first | rfl | omega) (by omega) _ HSL.out ?_ | (at_builtin; refine wpList_append_io _ rfl _ _ rfl _ _ _ rfl OC.out.own _ _ D _ rfl rfl IO.out (by omega) ?_))
          intro v' w5 hown hgrow hat
          have OF := hid (OC.out.grow hown hgrow hat)
          clear hown hgrow hat
          obtain ⟨a6, c6, hv6⟩ := own_shape OF.out.own
          subst hv6
          go_wp2
          go_ret
          exact ⟨_, rfl, by rw [HAF.out, ← HS2.out]; exact OF.out⟩
        · have hxe2 : (x == n) = false := by simpa using hxe
          have hxe3 : decide (x = n) = false := decide_eq_false hxe
          have HAF := hid (show addL l n = (s ++ [n]) ++ l.drop k by rw [HA.out, if_neg hxe, List.drop_eq_getElem_cons hlt, HXK.out]; simp)
          obtain ⟨ad, cd, hsl2, hio⟩ := tail_io (some ⟨b, 0, none⟩) cap k l w4 (.inr (HIG.out.new OC.out.touch)) hcc (by omega)
          have hDl : (l.drop k).length ≤ 1000 := by rw [List.length_drop]; omega
          have HIGN := hid HTK.out.2
          clear HTK
          generalize l.drop k = D at *
          have HSL := hid hsl2
          have IO := hid hio
          clear hsl2 hio
          go_wp2_with (first | refine wpList_slice_from _ rfl _ _ rfl _ _ _ (k) _ rfl rfl (by first | rfl | omega) (by omega) _ HSL.out ?_ | (at_builtin; refine wpList_append_io _ rfl _ _ rfl _ _ _ rfl OC.out.own _ _ D _ rfl rfl IO.out (by omega) ?_))
          intro v' w5 hown hgrow hat
          have OF := hid (OC.out.grow hown hgrow hat)
          clear hown hgrow hat
          obtain ⟨a6, c6, hv6⟩ := own_shape OF.out.own
          subst hv6
          go_wp2
          go_ret
          exact ⟨_, rfl, by rw [HAF.out, ← HS2.out]; exact OF.out⟩
      · have HDW := hid (show l.dropWhile p = [] by rw [← HTK.out.2]; exact List.drop_eq_nil_of_le hge)
        rw [HDW.out] at HA
        have hcc := HCC.out
        go_wp2_with (at_builtin; refine wpList_append_own_at _ rfl _ _ 23 rfl 0 3 i0 (.int .i64 0) 1 8 Tryd.underlying23 hi3 hz0 hz1 hz2 rfl (by decide) _ _ _ rfl (OW.out.own.alloc _) ⟨wr.heap.size, 0, none⟩ 1 1 [.int .i64 n] rfl rfl (row_new wr [.int .i64 n] 3) (by intro u hu; simp at hu; subst hu; rfl) (by unfold maxLen; omega) (by omega) (Nat.zero_le _) ?_)
        intro v' w4 hown hgrow _ hat
        have OC := hid (OW.out.more (by rw [hsl]; exact hown) hgrow hat)
        clear hown hgrow hat OW
        have hsn0 : (s ++ [n]).length = k + 1 := by rw [List.length_append, hsl]; rfl
        obtain ⟨s2, hs2⟩ : ∃ s2, s2 = s ++ [n] := ⟨_, rfl⟩
        rw [← hs2] at OC hsn0
        have HS2 := hid hs2
        clear hs2
        obtain ⟨a5, c5, hv5⟩ := own_shape OC.out.own
        subst hv5
        have hsn : s2.length ≤ 2000 := by omega
        clear hsn0
        obtain ⟨ad, cd, hsl2, hio⟩ := tail_io a cap k l w4 (HI.out.imp id (fun h => h.new OC.out.touch)) hcc (by omega)
        rw [List.drop_eq_nil_of_le hge] at hsl2 hio
        obtain ⟨D, hD⟩ : ∃ D : List Int, D = [] := ⟨_, rfl⟩
        have HAF := hid (show addL l n = (s ++ [n]) ++ D by rw [HA.out, hD]; simp)
        rw [← hD] at hsl2 hio
        have hDl : D.length ≤ 1000 := by rw [hD]; simp
        have HSL := hid hsl2
        have IO := hid hio
        clear hsl2 hio hD
        go_wp2_with (first | refine wpList_slice_from _ rfl _ _ rfl _ _ _ (k) _ rfl rfl (by first | rfl | omega) (by omega) _ HSL.out ?_ | (at_builtin; refine wpList_append_io _ rfl _ _ rfl _ _ _ rfl OC.out.own _ _ D _ rfl rfl IO.out (by omega) ?_))
        intro v' w5 hown hgrow hat
        have OF := hid (OC.out.grow hown hgrow hat)
        clear hown hgrow hat
        obtain ⟨a6, c6, hv6⟩ := own_shape OF.out.own
        subst hv6
        go_wp2
        go_ret
        exact ⟨_, rfl, by rw [HAF.out, ← HS2.out]; exact OF.out⟩
end Go.Proofs.YtnngemdpoemhgaaDoor
