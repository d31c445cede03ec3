/- Texts of this proof, one behind the other: what each says stands ahead of it. -/
import Derived.Test.YtabhlhgfacpohaaDoorM8
import Derived.Test.YtabhlhgfacpohaaDoorM4
import Derived.Laws.BytesArg
import Derived.Lib.AppendStr
/- Encode by Latin1 of numbers that are bytes; conditions: those told. -/
namespace Go.Proofs.YtabhlhgfacpohaaDoor
open Go.RowKit
open Go.Lib

set_option maxRecDepth 100000 in
theorem scalar_low (r : Int) (w : World) (h : 0 ≤ r ∧ r ≤ 255) : Calls Tryd.prog 27 #[.int .i64 r] w fun e w' => e = .returned (.bool true) ∧ w = w' := by
  have K := hid (isHalf_any r w)
  have h1 : r ≤ 1114111 := by omega
  have h2 : decide (55296 ≤ r) = false := decide_eq_false (by omega)
  rw [h2] at K
  clear h2
  go_enter Tryd.func27, Tryd.ntmps27
  go_wp2_with fail
  refine K.out.mono ?_
  rintro e w1 ⟨rfl, rfl⟩
  go_wp2
  go_ret
  exact ⟨rfl, rfl⟩

theorem crun_append_string_at {P : Program} (w : World) (t u ty e : TypeId) (i : TypeInfo) (ht : P.underlying t = some (.slice e)) (hu : P.underlying u = some .string) (hi : P.info? e = some i) (hz : i.zero = some (.int .u8 0))
    (hsize : i.size = 1) (hby : i.bytes = 1) (v : Value) (n : Nat) (xs : List Value) (hown : w.ownsRow 0 e 1 v n xs) (s : ByteArray) (h63 : n + s.size ≤ maxLen) (hbytes : n + s.size ≤ 140737488355328) :
    ∃ v' w', (Builtin.append_ #[t, u] ty #[v, .string s]).run P w = .ok v' w' ∧ w'.ownsRow 0 e 1 v' (n + s.size) (xs ++ strCells s) ∧ w.grownBy w' v.ownBlock ∧
      (v'.ownBlock = v.ownBlock ∨ ∃ g, v'.ownBlock = some g ∧ w.heap.size ≤ g) := by
  rcases hown.2 with ⟨rfl, rfl⟩ | ⟨g, cap, cur, rfl, _, hg, hnc, hcm, hcs, htake⟩
  · have hx : xs = [] := List.eq_nil_of_length_eq_zero (by simpa using hown.1)
    subst hx
    obtain ⟨v', w', hr, h2, h3, h4⟩ := run_append_own_string (P := P) w w.heap.size t u ty e i ht hu hi hz hsize hby _ _ _ (World.ownsRow_nil w w.heap.size e 1) s h63 hbytes (Nat.le_refl _)
    refine ⟨v', w', hr, ⟨h2.1, ?_⟩, h3, ?_⟩
    · rcases h2.2 with h | ⟨g, cap, cur, hv, _, hh, r⟩
      · exact .inl h
      · exact .inr ⟨g, cap, cur, hv, Nat.zero_le _, hh, r⟩
    · rcases h2.2 with ⟨rfl, _⟩ | ⟨g, cap, cur, rfl, hg, _⟩
      · exact .inl rfl
      · exact .inr ⟨g, rfl, hg⟩
  · obtain ⟨v', w', hr, h2, h3, h4⟩ := run_append_own_string (P := P) w 0 t u ty e i ht hu hi hz hsize hby _ _ _ hown s h63 hbytes (Nat.zero_le _)
    refine ⟨v', w', hr, h2, h3, ?_⟩
    by_cases hroom : n + s.size ≤ cap
    · have hcs' : cur.size = cap := by simpa using hcs
      have hr2 := run_append_room_string (P := P) w t u ty e i ht hu hi hsize g n cap cur hg s hroom (by omega)
      rw [hr] at hr2
      simp only [Result.ok.injEq] at hr2
      rw [hr2.1]
      exact .inl rfl
    · have holds : ∀ j u, xs[j]? = some u → w.cell? ((⟨g, 0, none⟩ : Addr).add j) = some u := hown.cells (g := g) rfl
      have hr2 := run_append_grow_string (P := P) w t u ty e i (.int .u8 0) ht hu hi hz ⟨g, 0, none⟩ n cap xs (by rw [hsize]; exact hown.1) holds s (by omega) (by unfold maxLen at h63; omega) (by rw [hby]; exact growslice_fits (by omega) (by omega))
      rw [hr] at hr2
      simp only [Result.ok.injEq] at hr2
      rw [hr2.1]
      exact .inr ⟨_, rfl, Nat.le_refl _⟩

theorem step_append_string {P : Program} (w : World) {ops : Array Oper} {o : Oper} {a : Act} {K : Act → World → Prop} {Q : Exit → Act → World → Prop} {E : Prop} (hgd : o.guard = none) (sl x : Operand) (t u : TypeId)
    (ho : o.op = .call { callee := .builtin .append, args := #[sl, x], argTypes := #[t, u] })
    (e : TypeId) (i : TypeInfo) (ht : P.underlying t = some (.slice e)) (hu : P.underlying u = some .string) (hi : P.info? e = some i) (hz : i.zero = some (.int .u8 0)) (hsize : i.size = 1) (hby : i.bytes = 1)
    (v : Value) (n : Nat) (xs : List Value) (hs : a.eval sl = v) (hown : w.ownsRow 0 e 1 v n xs) (s : ByteArray) (hx : a.eval x = .string s) (h63 : n + s.size ≤ maxLen) (hbytes : n + s.size ≤ 140737488355328)
    (h : ∀ v' w', w'.ownsRow 0 e 1 v' (n + s.size) (xs ++ strCells s) → w.grownBy w' v.ownBlock → (v'.ownBlock = v.ownBlock ∨ ∃ g, v'.ownBlock = some g ∧ w.heap.size ≤ g) → K (a.put o.dst v') w') :
    if Region.wanted o (yielded ops a.tmps) = true then Oper.wp P o a w K Q else E := by
  have hw : Region.wanted o (yielded ops a.tmps) = true := by simp [Region.wanted, hgd]
  rw [if_pos hw]
  obtain ⟨v', w', hr, h2, h3, h4⟩ := crun_append_string_at (P := P) w t u o.type e i ht hu hi hz hsize hby v n xs hown s h63 hbytes
  unfold Oper.wp execOp
  simp only [ho, resolve, invoke, builtin, Sem.run_bind, Sem.run_pure, Result.andThen_ok, List.map_toArray, List.map_cons, List.map_nil, hs, hx, hr]
  exact h v' w' h2 h3 h4

def nums (s : ByteArray) : List Int := s.data.toList.map fun b => (b.toNat : Int)
theorem Ob.appS {P : Nat → Prop} {W0 wr w1 : World} {q : Nat} {v v' : Value} {o : List Int} {s : ByteArray} (h : Ob P W0 wr q v o) (hown : w1.ownsRow 0 5 1 v' (o.length + s.size) (encB o ++ strCells s)) (hg : wr.grownBy w1 v.ownBlock) (hat : v'.ownBlock = v.ownBlock ∨ ∃ g, v'.ownBlock = some g ∧ wr.heap.size ≤ g) : Ob P W0 (w1.setCell ⟨q, 0, none⟩ v') q v' (o ++ nums s) := by
  have hq := lt_of_block h.blk
  have key : w1.heap[q]? = wr.heap[q]? := hg.block q hq (fun e => h.ne e.symm)
  have ne' : v'.ownBlock ≠ some q := by
    rcases hat with e | ⟨g, e, hg⟩
    · rw [e]; exact h.ne
    · rw [e]
      intro z
      simp at z
      omega
  refine ⟨own_kept5 ?_ (fun g e => Below.heap_setCell _ _ _ _ (fun z => ne' (by rw [e, z]))), fun g e => ?_, block_set (key.trans h.blk) 0 v', (h.touch.grown hg (fun k e hk => ?_)).setCell (fun _ => h.at_) v', h.at_⟩
  · have e1 : (nums s).length = s.size := by unfold nums; rw [List.length_map, Array.length_toList]; rfl
    have e2 : encB (nums s) = strCells s := by unfold encB nums strCells; rw [List.map_map]; rfl
    rw [List.length_append, e1, encB, List.map_append]
    rw [← e2] at hown
    exact hown
  · rcases hat with z | ⟨g', z, hz⟩
    · exact h.new g (by rw [← z]; exact e)
    · rw [z] at e
      simp at e
      have := h.touch.size
      exact .inr (by omega)
  · rcases h.new k e with p | p
    · exact p
    · omega
theorem Ob.midS {P : Nat → Prop} {W0 wr w1 : World} {q : Nat} {v : Value} {o : List Int} (h : Ob P W0 wr q v o) (hg : wr.grownBy w1 v.ownBlock) : w1.cell? ⟨q, 0, none⟩ = some v ∧ ∀ i, w1.frozen? ⟨q, i, none⟩ = false := by
  have hq := lt_of_block h.blk
  have := (hg.block q hq (fun e => h.ne e.symm)).trans h.blk
  simp [World.cell?, World.frozen?, this]
theorem conv_own {w : World} {v : Value} {o : List Int} (h : w.ownsRow 0 5 1 v o.length (encB o)) : (convert 53 9 v).run Tryd.prog w = .ok (.string (strOfNums o)) w := by
  rcases h.2 with ⟨rfl, h0⟩ | ⟨g, cap, cur, rfl, hg, hh, rest⟩
  · obtain rfl := List.eq_nil_of_length_eq_zero h0
    rw [run_convert_bytes_string w 53 9 5 _ _ _ Tryd.underlying53 Tryd.underlying5 Tryd.underlying9]
    simp [Conv.bytesToString, strOfNums]
    rfl
  · refine run_convert_bytes_arg w 53 5 Tryd.underlying53 Tryd.underlying5 g 0 o.length cap o rfl (fun i hi => ?_) 9 Tryd.underlying9
    have := h.cells (g := g) rfl i (.int .u8 (o.getD i 0)) (by simp [encB, hi])
    rw [add_g] at this
    rwa [Nat.zero_add]
theorem Ob.start (w : World) : Ob (fun k => k = w.heap.size) (w.alloc (.cells #[.slice none 0 0] 53)) (w.alloc (.cells #[.slice none 0 0] 53)) w.heap.size (.slice none 0 0) [] :=
  ⟨by simpa [encB] using World.ownsRow_nil _ _ _ _, fun g hg => by simp [Value.ownBlock] at hg, block_new w _ 53, Touch.refl _ _, rfl⟩

set_option maxRecDepth 100000 in
set_option maxHeartbeats 8000000 in
theorem encode_latin (a : Option Addr) (k : Nat) (l : List Int) (mark : Bool) (w : World) (ht : Tabs w) (hl : l = [] ∨ Ig w a l) (hin : ∀ x ∈ l, 0 ≤ x ∧ x ≤ 255) (hb : l.length ≤ 1048576) :
    Calls Tryd.prog 14 #[.slice a l.length k, .int .i64 4, .bool mark] w fun e w' => e = .returned (.tuple #[.string (strOfNums l), .int .i64 0]) ∧ Touch (fun _ => False) w w' := by
  have O := hid (Ob.start w)
  have T := hid ((Touch.refl (fun _ => False) w).alloc (.cells #[.slice none 0 0] 53))
  have HT := hid ht
  have HL := hid hl
  have HIN := hid hin
  clear ht hl hin
  go_enter Tryd.func14, Tryd.ntmps14
  go_upto_region 4 with fail
  generalize (w.alloc (.cells #[.slice none 0 0] 53)) = w1 at *
  obtain ⟨q, hq⟩ : ∃ q, q = w.heap.size := ⟨_, rfl⟩
  rw [← hq] at O ⊢
  have HQ := hid hq
  clear hq
  go_upto_if 18 with fail
  go_cut [18] (fun v wd => v = .bool mark ∧ ∃ v, Ob (fun k => k = q) w1 wd q v (if mark then nums (mk 4) else []))
  case first =>
    cases mark
    · go_wp2
      go_meet
      case rel => exact ⟨rfl, _, O.out⟩
    · obtain ⟨m4, hm4⟩ : ∃ m, m = mk 4 := ⟨_, rfl⟩
      have hm : w1.cell? ⟨0, 4, none⟩ = some (.string m4) := by rw [hm4]; exact mk_cell (HT.out.new T.out) 4 (by omega)
      have hms : m4.size ≤ 3 := by rw [hm4]; exact mk_size 4
      have HM := hid hm4
      clear hm4
      obtain ⟨i0, hi5, hz0, hz1, hz2⟩ := info_parts info5i
      obtain ⟨hc0, hcf⟩ := O.out.cell
      go_upto_region 5 with fail
      go_region_law ((refine step_append_string _ (by rfl) _ _ _ _ (by rfl) 5 i0 Tryd.underlying53 Tryd.underlying9 hi5 hz0 hz1 hz2 _ _ _ (by rfl) O.out.own.drew m4 (by rfl) (by unfold maxLen; simp; omega) (by simp; omega) ?_; intro v' w4 hown hgrow hat; clear hc0 hcf; obtain ⟨hc0, hcf⟩ := O.out.midS ⟨hgrow.os, hgrow.tape, hgrow.output, hgrow.size, hgrow.block⟩; obtain ⟨a2, k2, hv2⟩ := own_shape hown; subst hv2))
      all_goals
        have O2 := hid (O.out.appS hown ⟨hgrow.os, hgrow.tape, hgrow.output, hgrow.size, hgrow.block⟩ hat)
        simp only [List.length_nil, Nat.zero_add, List.nil_append] at O2
        clear hown hgrow hat hc0 hcf O
        go_wp2
        go_meet
        case rel => exact ⟨rfl, _, by rw [if_pos trivial, ← HM.out]; exact O2.out⟩
  obtain ⟨rfl, v0, hob⟩ := hcut
  obtain ⟨m0, hm0⟩ : ∃ m0, m0 = (if mark then nums (mk 4) else []) := ⟨_, rfl⟩
  have hml : m0.length ≤ 3 := by
    rw [hm0]
    cases mark
    · simp
    · exact Nat.le_trans (Nat.le_of_eq (by rw [if_pos rfl]; unfold nums; rw [List.length_map, Array.length_toList]; rfl)) (mk_size 4)
  rw [← hm0] at hob
  have HM0 := hid hm0
  clear O hm0
  have OO := hid hob
  obtain ⟨av, kv, hv0⟩ := own_shape hob.own
  subst hv0
  clear hob
  obtain ⟨w2, hw2⟩ : ∃ x, x = wc := ⟨_, rfl⟩
  subst hw2
  have KP := hid (putter_four q w2)
  go_wp2_with fail
  refine KP.out.mono ?_
  rintro e w3 ⟨bo, b5, rfl, o1, o2, tc⟩
  have PU := hid (put_latin o1 o2)
  have O3 := hid (OO.out.still tc)
  have HS := hid (show q < w2.heap.size from lt_of_block OO.out.blk)
  have HOW := hid (show ∀ g, (Value.slice av m0.length kv).ownBlock = some g → g < w2.heap.size from fun g hg => lt_of_block (own_block5 OO.out.own hg).choose_spec)
  have HS3 := hid tc.size
  have TC3 := hid tc
  have HNW := hid (show ∀ k, k < w.heap.size → (Value.slice av m0.length kv).ownBlock ≠ some k from fun k hk e => by
    have s1 := T.out.size
    have := HQ.out
    rcases OO.out.new k e with p | p <;> omega)
  clear o1 o2 tc KP
  have HG := hid (show ∀ i (h : i < l.length), ∃ b, a = some ⟨b, 0, none⟩ ∧ b < w3.heap.size ∧ ¬ (b = q ∨ (Value.slice av m0.length kv).ownBlock = some b) ∧ w3.cell? ⟨b, i, none⟩ = some (.int .i64 l[i]) from fun i hi => by
    rcases HL.out with rfl | ⟨b, rfl, hb, hc⟩
    · simp at hi
    · have s1 := T.out.size
      have s2 := OO.out.touch.size
      have hbq : b ≠ q := by have := HQ.out; omega
      refine ⟨b, rfl, by have := HS3.out; omega, fun e => ?_, ?_⟩
      · rcases e with e | e
        · exact hbq e
        · rcases OO.out.new b e with p | p
          · exact hbq p
          · omega
      · rw [TC3.out.cell (p := ⟨b, i, none⟩) (by show b < w2.heap.size; omega) id, OO.out.touch.cell (p := ⟨b, i, none⟩) (by show b < w1.heap.size; omega) hbq, T.out.cell (p := ⟨b, i, none⟩) hb id]
        exact hc i hi)
  have TW := hid (show Touch (fun _ => False) w w3 from (T.out.trans OO.out.touch (fun k hk e => by have := HQ.out; omega)).trans TC3.out (fun _ _ e => e))
  have H0 := hid O3.out.now
  clear HL OO T O3 TC3
  go_wp2_with fail
  go_loopg [28] l.length (fun gk v7 wq => ∃ (i : Nat) (v' : Value), i + gk = l.length ∧ v7 = .int .i64 (i : Nat) ∧ Ob (fun k => k = q ∨ (Value.slice av m0.length kv).ownBlock = some k) w3 wq q v' (m0 ++ l.take i))
  case atStart => exact ⟨0, _, by omega, rfl, by simpa using H0.out⟩
  case round =>
    obtain ⟨i, v', hi, rfl, hob⟩ := hrel
    obtain ⟨o', ho'⟩ : ∃ o', o' = m0 ++ l.take i := ⟨_, rfl⟩
    have hol : o'.length ≤ 549755813888 := by rw [ho', List.length_append, List.length_take]; omega
    rw [← ho'] at hob
    have HO := hid ho'
    clear ho'
    have O := hid hob
    clear hob
    by_cases hlt2 : i < l.length
    · obtain ⟨gk, rfl⟩ : ∃ j, gk = j + 1 := ⟨gk - 1, by omega⟩
      have hltI : (i : Int) < (l.length : Int) := by omega
      obtain ⟨b, rfl, hb3, hbP, hc⟩ := HG.out i hlt2
      have hx := (O.out.touch.cell (p := ⟨b, i, none⟩) hb3 hbP).trans hc
      have hxin := HIN.out l[i] (List.getElem_mem hlt2)
      have HT2 := hid (take_more l i hlt2 m0)
      obtain ⟨x, hxe⟩ : ∃ x, l[i] = x := ⟨_, rfl⟩
      rw [hxe, ← HO.out] at HT2
      rw [hxe] at hx hxin
      have KS := hid (scalar_low x wr hxin)
      have KP := hid (PU.out wr v' o' x (fun k h1 h2 => O.out.touch.block k h2 (fun e => by
        rcases e with e | e
        · have := HS.out; omega
        · have := HOW.out k e; omega)) O.out.touch.size (fun g hg => by
        rcases O.out.new g hg with (p | p) | p
        · exact .inl (by have := HS.out; omega)
        · exact .inl (HOW.out g p)
        · exact .inr p) HS.out O.out.now hxin hol)
      have hxn : ¬ (255 < x) := by omega
      clear hxe hc hbP hxin HO
      go_wp2_with fail
      refine KS.out.mono ?_
      rintro e w5 ⟨rfl, rfl⟩
      clear KS
      go_wp2_with fail
      refine KP.out.mono ?_
      rintro e w6 ⟨rfl, v6, hb6⟩
      have O6 := hid (O.out.back hb6)
      rw [← HT2.out] at O6
      clear hb6 KP O HT2
      go_wp2
      go_roundg gk
      case measure => omega
      case rel => exact ⟨i + 1, v6, by omega, by go_num, O6.out⟩
    · have hltI : ¬ ((i : Int) < (l.length : Int)) := by omega
      have HE := hid (show o' = l by
        rw [HO.out, List.take_of_length_le (by omega), HM0.out]
        cases mark <;> rfl)
      obtain ⟨av', kv', hv'⟩ := own_shape O.out.own
      subst hv'
      obtain ⟨hc0, hcf⟩ := O.out.cell
      have hcv := conv_own O.out.own
      have TZ := hid (show Touch (fun _ => False) w wr from TW.out.trans O.out.touch (fun k hk e => by
        have h1 := HQ.out
        rcases e with e | e
        · omega
        · exact absurd e (HNW.out k hk)))
      clear HG
      go_wp2
      refine bodyPost_ret (results_tmp2 rfl _ _ _) rfl ?_
      exact ⟨by rw [← HE.out]; rfl, TZ.out⟩
end Go.Proofs.YtabhlhgfacpohaaDoor

/- The putters of two bytes; conditions: those told. -/
namespace Go.Proofs.YtabhlhgfacpohaaDoor
open Go.RowKit
attribute [local go_sem] run_store_func

theorem and_low (r : Int) (k : Nat) (h0 : 0 ≤ r) (h1 : r < 4611686018427387904) (hk : k ≤ 20) : bits .and .i64 r ((2 ^ k - 1 : Nat) : Int) = r % ((2 ^ k : Nat) : Int) := by
  obtain ⟨n, rfl⟩ := Int.eq_ofNat_of_zero_le h0
  have hp : 2 ^ k ≤ 2 ^ 20 := Nat.pow_le_pow_right (by decide) hk
  rw [(bits_nat .i64 62 (by decide) wraps_i64 n (2 ^ k - 1) (by omega) (by omega)).1, Nat.and_two_pow_sub_one_eq_mod]
  rfl
theorem and255 (r : Int) (h0 : 0 ≤ r) (h1 : r < 4611686018427387904) : bits .and .i64 r 255 = r % 256 := and_low r 8 h0 h1 (by decide)
theorem and1023 (r : Int) (h0 : 0 ≤ r) (h1 : r < 4611686018427387904) : bits .and .i64 r 1023 = r % 1024 := and_low r 10 h0 h1 (by decide)

set_option maxRecDepth 100000 in
set_option maxHeartbeats 4000000 in
theorem unit_any (f : Nat) (hf : f = 50 ∨ f = 51) {lo : Nat} {w : World} {bo b5 q : Nat} (h1 : Own1 lo w bo (.pointer (some ⟨q, 0, none⟩))) (h2 : Own1 lo w b5 (.func (.func 48) #[] #[.pointer (some ⟨bo, 0, none⟩)])) : PutOk lo w f b5 q (fun r => 0 ≤ r ∧ r ≤ 65535) (fun r => if f = 50 then [r % 256, r / 256] else [r / 256, r % 256]) 549755813896 := by
  intro wq v o r hk hs hv hq hob hr ho
  have c5 : wq.cell? ⟨b5, 0, none⟩ = some (.func (.func 48) #[] #[.pointer (some ⟨bo, 0, none⟩)]) := (cell_heap (hk b5 h2.ge h2.lt)).trans h2.cell
  have hne : ∀ g, lo ≤ g → g < w.heap.size → v.ownBlock ≠ some g := fun g h3 h4 e => by
    rcases hv g e with p | p <;> omega
  have b1 := h1.ge
  have b2 := h1.lt
  have hbl := lt_of_block hob.blk
  have key : ∀ x y : Int, 0 ≤ x ∧ x ≤ 255 → 0 ≤ y ∧ y ≤ 255 → Calls Tryd.prog 48 #[.slice (some ⟨wq.heap.size, 0, none⟩) 2 2, .pointer (some ⟨bo, 0, none⟩)] (wq.alloc (.cells #[.int .i64 x, .int .i64 y] 3)) fun e w' => e = .returned (.tuple #[]) ∧ ∃ v', Ob (fun k => k = q ∨ v.ownBlock = some k) wq w' q v' (o ++ [x, y]) := fun x y hx hy => by
    have tA : Touch (fun _ => False) wq (wq.alloc (.cells #[.int .i64 x, .int .i64 y] 3)) := (Touch.refl _ wq).alloc _
    have hoo := hob.still tA
    refine (put_any wq.heap.size 2 bo q [x, y] o v (wq.alloc (.cells #[.int .i64 x, .int .i64 y] 3)) (ig_new wq [x, y]) (fun z hz => by simp at hz; rcases hz with rfl | rfl; exact hx; exact hy)
      (by rw [tA.cell (p := ⟨bo, 0, none⟩) (show bo < wq.heap.size by omega) id, cell_heap (hk bo h1.ge h1.lt)]; exact h1.cell) (by simp; omega)
      ⟨by omega, hne bo h1.ge h1.lt⟩ ⟨by omega, own_alloc hob.own⟩ hoo.now (by simp; omega)).mono ?_
    rintro e w2 ⟨rfl, v', hb⟩
    exact ⟨rfl, v', hoo.back hb⟩
  have K := hid key
  have HR := hid hr
  clear hk hv hob h1 h2 hne key hr
  rcases hf with rfl | rfl
  · have hand := and255 r HR.out.1 (by have := HR.out.2; omega)
    have KK := hid (K.out (r % 256) (r / 256) (by omega) (by have := HR.out; omega))
    clear K
    go_enter Tryd.func50, Tryd.ntmps50
    go_wp2_with fail
    refine KK.out.mono ?_
    rintro e w2 ⟨rfl, v', hb⟩
    have H2 := hid hb
    clear hb KK
    go_wp2
    refine bodyPost_end (results_none rfl _ _ _) rfl ?_
    exact ⟨rfl, v', H2.out⟩
  · have hand := and255 r HR.out.1 (by have := HR.out.2; omega)
    have KK := hid (K.out (r / 256) (r % 256) (by have := HR.out; omega) (by omega))
    clear K
    go_enter Tryd.func51, Tryd.ntmps51
    go_wp2_with fail
    refine KK.out.mono ?_
    rintro e w2 ⟨rfl, v', hb⟩
    have H2 := hid hb
    clear hb KK
    go_wp2
    refine bodyPost_end (results_none rfl _ _ _) rfl ?_
    exact ⟨rfl, v', H2.out⟩

/-- The bytes of a scalar by a coding of two bytes a unit. -/
def enU (f : Nat) (r : Int) : List Int := if f = 50 then [r % 256, r / 256] else [r / 256, r % 256]
def en16 (f : Nat) (r : Int) : List Int := if r < 65536 then enU f r else enU f (55296 + (r - 65536) / 1024) ++ enU f (56320 + (r - 65536) % 1024)
/-- A later world of the same. -/
theorem Ob.chain {P : Nat → Prop} {W0 wr : World} {q : Nat} {v : Value} {o : List Int} {lo : Nat} {w : World} (h : Ob P W0 wr q v o) (hP : ∀ k, P k → k < lo ∨ w.heap.size ≤ k) (hk : ∀ k, lo ≤ k → k < w.heap.size → W0.heap[k]? = w.heap[k]?) (hs : w.heap.size ≤ W0.heap.size) :
    (∀ k, lo ≤ k → k < w.heap.size → wr.heap[k]? = w.heap[k]?) ∧ w.heap.size ≤ wr.heap.size ∧ (∀ g, v.ownBlock = some g → g < lo ∨ w.heap.size ≤ g) := by
  refine ⟨fun k h1 h2 => ?_, Nat.le_trans hs h.touch.size, fun g hg => ?_⟩
  · rw [h.touch.block k (by omega) (fun e => by rcases hP k e with p | p <;> omega)]
    exact hk k h1 h2
  · rcases h.new g hg with p | p
    · exact hP g p
    · exact .inr (by omega)

set_option maxRecDepth 100000 in
set_option maxHeartbeats 4000000 in
theorem pair_put (f : Nat) (hf : f = 50 ∨ f = 51) {lo : Nat} {w : World} {b6 b5 q : Nat} (h2 : Own1 lo w b6 (.func (.func f) #[] #[.pointer (some ⟨b5, 0, none⟩)])) (hu : PutOk lo w f b5 q (fun r => 0 ≤ r ∧ r ≤ 65535) (enU f) 549755813896) : PutOk lo w 72 b6 q (fun r => 0 ≤ r ∧ r ≤ 1114111) (en16 f) 549755813888 := by
  intro wq v o r hk hs hv hq hob hr ho
  have c5 : wq.cell? ⟨b6, 0, none⟩ = some (.func (.func f) #[] #[.pointer (some ⟨b5, 0, none⟩)]) := (cell_heap (hk b6 h2.ge h2.lt)).trans h2.cell
  have HP : ∀ k, (k = q ∨ v.ownBlock = some k) → k < lo ∨ w.heap.size ≤ k := fun k e => by
    rcases e with e | e
    · exact .inl (by omega)
    · exact hv k e
  by_cases hlt : r < 65536
  · have K := hid (hu wq v o r hk hs hv hq hob (by omega) (by omega))
    have HE := hid (show en16 f r = enU f r from if_pos hlt)
    clear hk hv hob hu h2 HP
    rcases hf with rfl | rfl
    all_goals
      go_enter Tryd.func72, Tryd.ntmps72
      go_wp2_with fail
      refine K.out.mono ?_
      rintro e w2 ⟨rfl, v', hb⟩
      have H2 := hid hb
      clear hb K
      go_wp2
      refine bodyPost_ret (results_none rfl _ _ _) rfl ?_
      exact ⟨rfl, v', by rw [HE.out]; exact H2.out⟩
  · have hand := and1023 (r - 65536) (by omega) (by omega)
    have K := hid (hu wq v o (55296 + (r - 65536) / 1024) hk hs hv hq hob (by omega) (by omega))
    have HE := hid (show en16 f r = enU f (55296 + (r - 65536) / 1024) ++ enU f (56320 + (r - 65536) % 1024) from if_neg hlt)
    have K2 := hid (show ∀ (w1 : World) (v1 : Value) (o1 : List Int), Ob (fun k => k = q ∨ v.ownBlock = some k) wq w1 q v1 o1 → o1.length ≤ 549755813896 → Calls Tryd.prog f (#[.int .i64 (56320 + (r - 65536) % 1024)] ++ #[.pointer (some ⟨b5, 0, none⟩)]) w1 fun e w' => e = .returned (.tuple #[]) ∧ ∃ v', Ob (fun k => k = q ∨ v1.ownBlock = some k) w1 w' q v' (o1 ++ enU f (56320 + (r - 65536) % 1024)) from fun w1 v1 o1 hb hl => by
      have hc := hb.chain HP hk hs
      exact hu w1 v1 o1 (56320 + (r - 65536) % 1024) hc.1 hc.2.1 hc.2.2 hq hb.now (by omega) hl)
    have KC := hid (show ∀ (w1 : World) (v1 : Value) (o1 : List Int), Ob (fun k => k = q ∨ v.ownBlock = some k) wq w1 q v1 o1 → w1.cell? ⟨b6, 0, none⟩ = some (.func (.func f) #[] #[.pointer (some ⟨b5, 0, none⟩)]) from fun w1 v1 o1 hb => (cell_heap ((hb.chain HP hk hs).1 b6 h2.ge h2.lt)).trans h2.cell)
    have HL := hid (show ∀ x, (enU f x).length = 2 from fun x => by unfold enU; split <;> rfl)
    clear hk hv hob hu h2 HP
    rcases hf with rfl | rfl
    all_goals
      go_enter Tryd.func72, Tryd.ntmps72
      go_wp2_with fail
      refine K.out.mono ?_
      rintro e w2 ⟨rfl, v', hb⟩
      clear c5
      have c6 := KC.out w2 v' _ hb
      have KK := hid (K2.out w2 v' _ hb (by rw [List.length_append, HL.out]; omega))
      have H1 := hid hb
      clear hb K K2 KC
      go_wp2_with fail
      refine KK.out.mono ?_
      rintro e w3 ⟨rfl, v3, hb3⟩
      have H3 := hid (H1.out.back hb3)
      clear hb3 KK
      go_wp2
      refine bodyPost_end (results_none rfl _ _ _) rfl ?_
      exact ⟨rfl, v3, by rw [HE.out, ← List.append_assoc]; exact H3.out⟩

set_option maxRecDepth 100000 in
theorem pairPutter_any (f b5 : Nat) (w : World) : Calls Tryd.prog 49 #[.func (.func f) #[] #[.pointer (some ⟨b5, 0, none⟩)]] w fun e w' => ∃ b6, e = .returned (.func (.func 72) #[] #[.pointer (some ⟨b6, 0, none⟩)]) ∧ Own1 w.heap.size w' b6 (.func (.func f) #[] #[.pointer (some ⟨b5, 0, none⟩)]) ∧ Touch (fun _ => False) w w' := by
  go_enter Tryd.func49, Tryd.ntmps49
  go_wp2
  go_ret
  exact ⟨_, rfl, Own1.made rfl (Nat.le_refl _), (Touch.refl _ w).alloc _⟩
set_option maxRecDepth 100000 in
theorem putter_pair (q : Nat) (c : Int) (f : Nat) (hcf : (c = 2 ∧ f = 50) ∨ (c = 3 ∧ f = 51)) (w : World) : Calls Tryd.prog 26 #[.pointer (some ⟨q, 0, none⟩), .int .i64 c] w fun e w' => ∃ b6, e = .returned (.func (.func 72) #[] #[.pointer (some ⟨b6, 0, none⟩)]) ∧ PutOk w.heap.size w' 72 b6 q (fun r => 0 ≤ r ∧ r ≤ 1114111) (en16 f) 549755813888 ∧ Touch (fun _ => False) w w' := by
  rcases hcf with ⟨rfl, rfl⟩ | ⟨rfl, rfl⟩
  all_goals
    go_enter Tryd.func26, Tryd.ntmps26
    go_wp2_with fail
    refine (pairPutter_any _ _ _).mono ?_
    rintro e w2 ⟨b6, rfl, o6, t2⟩
    have OB := hid (show Own1 w.heap.size ((w.alloc (.cells #[.pointer (some ⟨q, 0, none⟩)] 68)).alloc (.cells #[.func (.func 48) #[] #[.pointer (some ⟨w.heap.size, 0, none⟩)]] 91)) w.heap.size (.pointer (some ⟨q, 0, none⟩)) from (Own1.made rfl (Nat.le_refl _)).alloc _)
    have O5 := hid (show Own1 w.heap.size ((w.alloc (.cells #[.pointer (some ⟨q, 0, none⟩)] 68)).alloc (.cells #[.func (.func 48) #[] #[.pointer (some ⟨w.heap.size, 0, none⟩)]] 91)) (w.heap.size + 1) (.func (.func 48) #[] #[.pointer (some ⟨w.heap.size, 0, none⟩)]) from Own1.made (by simp) (by omega))
    have T2 := hid ((((Touch.refl (fun _ => False) w).alloc (.cells #[.pointer (some ⟨q, 0, none⟩)] 68)).alloc (.cells #[.func (.func 48) #[] #[.pointer (some ⟨w.heap.size, 0, none⟩)]] 91)).trans t2 (fun _ _ e => e))
    have P := hid (pair_put _ (by decide) (o6.low (by simp; omega)) (unit_any _ (by decide) (OB.out.kept t2 id) (O5.out.kept t2 id)))
    clear OB O5 t2 o6
    go_wp2
    go_ret
    exact ⟨b6, rfl, P.out, T2.out⟩
end Go.Proofs.YtabhlhgfacpohaaDoor

/- A further byte of UTF-8; conditions: those told. -/
namespace Go.Proofs.YtabhlhgfacpohaaDoor
open Go.RowKit

theorem and63 (r : Int) (h0 : 0 ≤ r) (h1 : r < 4611686018427387904) : bits .and .i64 r 63 = r % 64 := and_low r 6 h0 h1 (by decide)
theorem or_head (n : Int) (hd k : Nat) (h0 : 0 ≤ n) (h1 : n < ((2 ^ k : Nat) : Int)) (hk : k ≤ 8) (hd1 : hd ≤ 255) : bits .or .i64 ((2 ^ k * hd : Nat) : Int) n = ((2 ^ k * hd : Nat) : Int) + n := by
  obtain ⟨m, rfl⟩ := Int.eq_ofNat_of_zero_le h0
  have hp : 2 ^ k ≤ 2 ^ 8 := Nat.pow_le_pow_right (by decide) hk
  have hm : m < 2 ^ k := by omega
  have h3 : 2 ^ k * hd ≤ 2 ^ 8 * 255 := Nat.mul_le_mul hp hd1
  rw [(bits_nat .i64 62 (by decide) wraps_i64 (2 ^ k * hd) m (by omega) (by omega)).2, ← Nat.two_pow_add_eq_or_of_lt hm]
  rfl
theorem or128 (n : Int) (h0 : 0 ≤ n) (h1 : n < 64) : bits .or .i64 128 n = 128 + n := or_head n 2 6 h0 h1 (by decide) (by decide)
theorem or192 (n : Int) (h0 : 0 ≤ n) (h1 : n < 64) : bits .or .i64 192 n = 192 + n := or_head n 3 6 h0 h1 (by decide) (by decide)
theorem or224 (n : Int) (h0 : 0 ≤ n) (h1 : n < 32) : bits .or .i64 224 n = 224 + n := or_head n 7 5 h0 h1 (by decide) (by decide)
theorem or240 (n : Int) (h0 : 0 ≤ n) (h1 : n < 16) : bits .or .i64 240 n = 240 + n := or_head n 15 4 h0 h1 (by decide) (by decide)

set_option maxRecDepth 100000 in
theorem further_any (r d : Int) (sh : Int) (b : Nat) (w : World) (hsh : (sh = 0 ∧ d = 1) ∨ (sh = 6 ∧ d = 64) ∨ (sh = 12 ∧ d = 4096)) (hr : 0 ≤ r ∧ r ≤ 1114111) (hc : w.cell? ⟨b, 0, none⟩ = some (.int .i64 r)) :
    Calls Tryd.prog 73 (#[.int .i64 sh] ++ #[.pointer (some ⟨b, 0, none⟩)]) w fun e w' => e = .returned (.int .i64 (128 + r / d % 64)) ∧ Touch (fun _ => False) w w' := by
  rcases hsh with ⟨rfl, rfl⟩ | ⟨rfl, rfl⟩ | ⟨rfl, rfl⟩
  · have h1 := and63 r hr.1 (by omega)
    have h2 := or128 (r % 64) (by omega) (by omega)
    have HE := hid (show 128 + r / 1 % 64 = 128 + r % 64 by omega)
    go_enter Tryd.func73, Tryd.ntmps73
    go_wp2
    go_ret
    exact ⟨by rw [HE.out]; rfl, Touch.refl _ _⟩
  · have h1 := and63 (r / 64) (by omega) (by omega)
    have h2 := or128 (r / 64 % 64) (by omega) (by omega)
    go_enter Tryd.func73, Tryd.ntmps73
    go_wp2
    go_ret
    exact ⟨rfl, Touch.refl _ _⟩
  · have h1 := and63 (r / 4096) (by omega) (by omega)
    have h2 := or128 (r / 4096 % 64) (by omega) (by omega)
    go_enter Tryd.func73, Tryd.ntmps73
    go_wp2
    go_ret
    exact ⟨rfl, Touch.refl _ _⟩
end Go.Proofs.YtabhlhgfacpohaaDoor
