/- Texts of this proof, one behind the other: what each says stands ahead of it. -/
import Derived.Test.YtpjnnbegimaaeaaDoorM9
import Derived.Test.YtpjnnbegimaaeaaDoorM2
import Derived.Laws.BytesArg
import Derived.Lib.AppendStr
import Derived.Test.YtpjnnbegimaaeaaDoorM3
import Derived.Test.YtpjnnbegimaaeaaDoorM8
/- Encode by Latin1 of numbers that are bytes; conditions: those told. -/
namespace Go.Proofs.YtpjnnbegimaaeaaDoor
open Go.RowKit
open Go.Lib

set_option maxRecDepth 100000 in
theorem scalar_low (r : Int) (w : World) (h : 0 ≤ r ∧ r ≤ 255) : Calls Tryd.prog 20 #[.int .i64 r] w fun e w' => e = .returned (.bool true) ∧ w = w' := by
  have K := hid (isHalf_any r w)
  have h1 : r ≤ 1114111 := by omega
  have h2 : decide (55296 ≤ r) = false := decide_eq_false (by omega)
  rw [h2] at K
  clear h2
  go_enter Tryd.func20, Tryd.ntmps20
  go_wp2_with fail
  refine K.out.mono ?_
  rintro e w1 ⟨rfl, rfl⟩
  go_wp2
  go_ret
  exact ⟨rfl, rfl⟩

theorem run_append_string_at {P : Program} (w : World) (t u ty e : TypeId) (i : TypeInfo) (ht : P.underlying t = some (.slice e)) (hu : P.underlying u = some .string) (hi : P.info? e = some i) (hz : i.zero = some (.int .u8 0))
    (hsize : i.size = 1) (hby : i.bytes = 1) (v : Value) (n : Nat) (xs : List Value) (hown : w.ownsRow 0 e 1 v n xs) (s : ByteArray) (h63 : n + s.size ≤ maxLen) (hbytes : n + s.size ≤ 140737488355328) :
    ∃ v' w', (Builtin.append_ #[t, u] ty #[v, .string s]).run P w = .ok v' w' ∧ w'.ownsRow 0 e 1 v' (n + s.size) (xs ++ strCells s) ∧ w.grownBy w' v.ownBlock ∧
      (v'.ownBlock = v.ownBlock ∨ ∃ g, v'.ownBlock = some g ∧ w.heap.size ≤ g) := by
  rcases hown.2 with ⟨rfl, rfl⟩ | ⟨g, cap, cur, rfl, _, hg, hnc, hcm, hcs, htake⟩
  · have hx : xs = [] := List.eq_nil_of_length_eq_zero (by simpa using hown.1)
    subst hx
    obtain ⟨v', w', hr, h2, h3, h4⟩ := run_append_own_string (P := P) w w.heap.size t u ty e i ht hu hi hz hsize hby _ _ _ (World.ownsRow_nil w w.heap.size e 1) s h63 hbytes (Nat.le_refl _)
    refine ⟨v', w', hr, ⟨h2.1, ?_⟩, h3, ?_⟩
    · rcases h2.2 with h | ⟨g, cap, cur, hv, _, hh, r⟩
      · exact .inl h
      · exact .inr ⟨g, cap, cur, hv, Nat.zero_le _, hh, r⟩
    · rcases h2.2 with ⟨rfl, _⟩ | ⟨g, cap, cur, rfl, hg, _⟩
      · exact .inl rfl
      · exact .inr ⟨g, rfl, hg⟩
  · obtain ⟨v', w', hr, h2, h3, h4⟩ := run_append_own_string (P := P) w 0 t u ty e i ht hu hi hz hsize hby _ _ _ hown s h63 hbytes (Nat.zero_le _)
    refine ⟨v', w', hr, h2, h3, ?_⟩
    by_cases hroom : n + s.size ≤ cap
    · have hcs' : cur.size = cap := by simpa using hcs
      have hr2 := run_append_room_string (P := P) w t u ty e i ht hu hi hsize g n cap cur hg s hroom (by omega)
      rw [hr] at hr2
      simp only [Result.ok.injEq] at hr2
      rw [hr2.1]
      exact .inl rfl
    · have holds : ∀ j u, xs[j]? = some u → w.cell? ((⟨g, 0, none⟩ : Addr).add j) = some u := hown.cells (g := g) rfl
      have hr2 := run_append_grow_string (P := P) w t u ty e i (.int .u8 0) ht hu hi hz ⟨g, 0, none⟩ n cap xs (by rw [hsize]; exact hown.1) holds s (by omega) (by unfold maxLen at h63; omega) (by rw [hby]; exact growslice_fits (by omega) (by omega))
      rw [hr] at hr2
      simp only [Result.ok.injEq] at hr2
      rw [hr2.1]
      exact .inr ⟨_, rfl, Nat.le_refl _⟩

theorem step_append_string {P : Program} (w : World) {ops : Array Oper} {o : Oper} {a : Act} {K : Act → World → Prop} {Q : Exit → Act → World → Prop} {E : Prop} (hgd : o.guard = none) (sl x : Operand) (t u : TypeId)
    (ho : o.op = .call { callee := .builtin .append, args := #[sl, x], argTypes := #[t, u] })
    (e : TypeId) (i : TypeInfo) (ht : P.underlying t = some (.slice e)) (hu : P.underlying u = some .string) (hi : P.info? e = some i) (hz : i.zero = some (.int .u8 0)) (hsize : i.size = 1) (hby : i.bytes = 1)
    (v : Value) (n : Nat) (xs : List Value) (hs : a.eval sl = v) (hown : w.ownsRow 0 e 1 v n xs) (s : ByteArray) (hx : a.eval x = .string s) (h63 : n + s.size ≤ maxLen) (hbytes : n + s.size ≤ 140737488355328)
    (h : ∀ v' w', w'.ownsRow 0 e 1 v' (n + s.size) (xs ++ strCells s) → w.grownBy w' v.ownBlock → (v'.ownBlock = v.ownBlock ∨ ∃ g, v'.ownBlock = some g ∧ w.heap.size ≤ g) → K (a.put o.dst v') w') :
    if Region.wanted o (yielded ops a.tmps) = true then Oper.wp P o a w K Q else E := by
  have hw : Region.wanted o (yielded ops a.tmps) = true := by simp [Region.wanted, hgd]
  rw [if_pos hw]
  obtain ⟨v', w', hr, h2, h3, h4⟩ := run_append_string_at (P := P) w t u o.type e i ht hu hi hz hsize hby v n xs hown s h63 hbytes
  unfold Oper.wp execOp
  simp only [ho, resolve, invoke, builtin, Sem.run_bind, Sem.run_pure, Result.andThen_ok, List.map_toArray, List.map_cons, List.map_nil, hs, hx, hr]
  exact h v' w' h2 h3 h4

def nums (s : ByteArray) : List Int := s.data.toList.map fun b => (b.toNat : Int)
theorem Ob.appS {P : Nat → Prop} {W0 wr w1 : World} {q : Nat} {v v' : Value} {o : List Int} {s : ByteArray} (h : Ob P W0 wr q v o) (hown : w1.ownsRow 0 5 1 v' (o.length + s.size) (encB o ++ strCells s)) (hg : wr.grownBy w1 v.ownBlock) (hat : v'.ownBlock = v.ownBlock ∨ ∃ g, v'.ownBlock = some g ∧ wr.heap.size ≤ g) : Ob P W0 (w1.setCell ⟨q, 0, none⟩ v') q v' (o ++ nums s) := by
  have hq := lt_of_block h.blk
  have key : w1.heap[q]? = wr.heap[q]? := hg.block q hq (fun e => h.ne e.symm)
  have ne' : v'.ownBlock ≠ some q := by
    rcases hat with e | ⟨g, e, hg⟩
    · rw [e]; exact h.ne
    · rw [e]
      intro z
      simp at z
      omega
  refine ⟨own_kept5 ?_ (fun g e => Below.heap_setCell _ _ _ _ (fun z => ne' (by rw [e, z]))), fun g e => ?_, block_set (key.trans h.blk) 0 v', (h.touch.grown hg (fun k e hk => ?_)).setCell (fun _ => h.at_) v', h.at_⟩
  · have e1 : (nums s).length = s.size := by unfold nums; rw [List.length_map, Array.length_toList]; rfl
    have e2 : encB (nums s) = strCells s := by unfold encB nums strCells; rw [List.map_map]; rfl
    rw [List.length_append, e1, encB, List.map_append]
    rw [← e2] at hown
    exact hown
  · rcases hat with z | ⟨g', z, hz⟩
    · exact h.new g (by rw [← z]; exact e)
    · rw [z] at e
      simp at e
      have := h.touch.size
      exact .inr (by omega)
  · rcases h.new k e with p | p
    · exact p
    · omega
theorem Ob.midS {P : Nat → Prop} {W0 wr w1 : World} {q : Nat} {v : Value} {o : List Int} (h : Ob P W0 wr q v o) (hg : wr.grownBy w1 v.ownBlock) : w1.cell? ⟨q, 0, none⟩ = some v ∧ ∀ i, w1.frozen? ⟨q, i, none⟩ = false := by
  have hq := lt_of_block h.blk
  have := (hg.block q hq (fun e => h.ne e.symm)).trans h.blk
  simp [World.cell?, World.frozen?, this]
theorem conv_own {w : World} {v : Value} {o : List Int} (h : w.ownsRow 0 5 1 v o.length (encB o)) : (convert 52 9 v).run Tryd.prog w = .ok (.string (strOfNums o)) w := by
  rcases h.2 with ⟨rfl, h0⟩ | ⟨g, cap, cur, rfl, hg, hh, rest⟩
  · obtain rfl := List.eq_nil_of_length_eq_zero h0
    rw [run_convert_bytes_string w 52 9 5 _ _ _ Tryd.underlying52 Tryd.underlying5 Tryd.underlying9]
    simp [Conv.bytesToString, strOfNums]
    rfl
  · refine run_convert_bytes_arg w 52 5 Tryd.underlying52 Tryd.underlying5 g 0 o.length cap o rfl (fun i hi => ?_) 9 Tryd.underlying9
    have := h.cells (g := g) rfl i (.int .u8 (o.getD i 0)) (by simp [encB, hi])
    rw [add_g] at this
    rwa [Nat.zero_add]
theorem Ob.start (w : World) : Ob (fun k => k = w.heap.size) (w.alloc (.cells #[.slice none 0 0] 52)) (w.alloc (.cells #[.slice none 0 0] 52)) w.heap.size (.slice none 0 0) [] :=
  ⟨by simpa [encB] using World.ownsRow_nil _ _ _ _, fun g hg => by simp [Value.ownBlock] at hg, block_new w _ 52, Touch.refl _ _, rfl⟩

set_option maxRecDepth 100000 in
set_option maxHeartbeats 8000000 in
theorem encode_latin (a : Option Addr) (k : Nat) (l : List Int) (mark : Bool) (w : World) (ht : Tabs w) (hl : l = [] ∨ Ig w a l) (hin : ∀ x ∈ l, 0 ≤ x ∧ x ≤ 255) (hb : l.length ≤ 1048576) :
    Calls Tryd.prog 11 #[.slice a l.length k, .int .i64 4, .bool mark] w fun e w' => e = .returned (.tuple #[.string (strOfNums l), .int .i64 0]) ∧ Touch (fun _ => False) w w' := by
  have O := hid (Ob.start w)
  have T := hid ((Touch.refl (fun _ => False) w).alloc (.cells #[.slice none 0 0] 52))
  have HT := hid ht
  have HL := hid hl
  have HIN := hid hin
  clear ht hl hin
  go_enter Tryd.func11, Tryd.ntmps11
  go_upto_region 4 with fail
  generalize (w.alloc (.cells #[.slice none 0 0] 52)) = w1 at *
  obtain ⟨q, hq⟩ : ∃ q, q = w.heap.size := ⟨_, rfl⟩
  rw [← hq] at O ⊢
  have HQ := hid hq
  clear hq
  go_upto_if 18 with fail
  go_cut [18] (fun v wd => v = .bool mark ∧ ∃ v, Ob (fun k => k = q) w1 wd q v (if mark then nums (mk 4) else []))
  case first =>
    cases mark
    · go_wp2
      go_meet
      case rel => exact ⟨rfl, _, O.out⟩
    · obtain ⟨m4, hm4⟩ : ∃ m, m = mk 4 := ⟨_, rfl⟩
      have hm : w1.cell? ⟨0, 4, none⟩ = some (.string m4) := by rw [hm4]; exact mk_cell (HT.out.new T.out) 4 (by omega)
      have hms : m4.size ≤ 3 := by rw [hm4]; exact mk_size 4
      have HM := hid hm4
      clear hm4
      obtain ⟨i0, hi5, hz0, hz1, hz2⟩ := info_parts info5i
      obtain ⟨hc0, hcf⟩ := O.out.cell
      go_upto_region 5 with fail
      go_region_law ((refine step_append_string _ (by rfl) _ _ _ _ (by rfl) 5 i0 Tryd.underlying52 Tryd.underlying9 hi5 hz0 hz1 hz2 _ _ _ (by rfl) O.out.own.drew m4 (by rfl) (by unfold maxLen; simp; omega) (by simp; omega) ?_; intro v' w4 hown hgrow hat; clear hc0 hcf; obtain ⟨hc0, hcf⟩ := O.out.midS ⟨hgrow.os, hgrow.tape, hgrow.output, hgrow.size, hgrow.block⟩; obtain ⟨a2, k2, hv2⟩ := own_shape hown; subst hv2))
      all_goals
        have O2 := hid (O.out.appS hown ⟨hgrow.os, hgrow.tape, hgrow.output, hgrow.size, hgrow.block⟩ hat)
        simp only [List.length_nil, Nat.zero_add, List.nil_append] at O2
        clear hown hgrow hat hc0 hcf O
        go_wp2
        go_meet
        case rel => exact ⟨rfl, _, by rw [if_pos trivial, ← HM.out]; exact O2.out⟩
  obtain ⟨rfl, v0, hob⟩ := hcut
  obtain ⟨m0, hm0⟩ : ∃ m0, m0 = (if mark then nums (mk 4) else []) := ⟨_, rfl⟩
  have hml : m0.length ≤ 3 := by
    rw [hm0]
    cases mark
    · simp
    · exact Nat.le_trans (Nat.le_of_eq (by rw [if_pos rfl]; unfold nums; rw [List.length_map, Array.length_toList]; rfl)) (mk_size 4)
  rw [← hm0] at hob
  have HM0 := hid hm0
  clear O hm0
  have OO := hid hob
  obtain ⟨av, kv, hv0⟩ := own_shape hob.own
  subst hv0
  clear hob
  obtain ⟨w2, hw2⟩ : ∃ x, x = wc := ⟨_, rfl⟩
  subst hw2
  have KP := hid (putter_four q w2)
  go_wp2_with fail
  refine KP.out.mono ?_
  rintro e w3 ⟨bo, b5, rfl, o1, o2, tc⟩
  have PU := hid (put_latin o1 o2)
  have O3 := hid (OO.out.still tc)
  have HS := hid (show q < w2.heap.size from lt_of_block OO.out.blk)
  have HOW := hid (show ∀ g, (Value.slice av m0.length kv).ownBlock = some g → g < w2.heap.size from fun g hg => lt_of_block (own_block5 OO.out.own hg).choose_spec)
  have HS3 := hid tc.size
  have TC3 := hid tc
  have HNW := hid (show ∀ k, k < w.heap.size → (Value.slice av m0.length kv).ownBlock ≠ some k from fun k hk e => by
    have s1 := T.out.size
    have := HQ.out
    rcases OO.out.new k e with p | p <;> omega)
  clear o1 o2 tc KP
  have HG := hid (show ∀ i (h : i < l.length), ∃ b, a = some ⟨b, 0, none⟩ ∧ b < w3.heap.size ∧ ¬ (b = q ∨ (Value.slice av m0.length kv).ownBlock = some b) ∧ w3.cell? ⟨b, i, none⟩ = some (.int .i64 l[i]) from fun i hi => by
    rcases HL.out with rfl | ⟨b, rfl, hb, hc⟩
    · simp at hi
    · have s1 := T.out.size
      have s2 := OO.out.touch.size
      have hbq : b ≠ q := by have := HQ.out; omega
      refine ⟨b, rfl, by have := HS3.out; omega, fun e => ?_, ?_⟩
      · rcases e with e | e
        · exact hbq e
        · rcases OO.out.new b e with p | p
          · exact hbq p
          · omega
      · rw [TC3.out.cell (p := ⟨b, i, none⟩) (by show b < w2.heap.size; omega) id, OO.out.touch.cell (p := ⟨b, i, none⟩) (by show b < w1.heap.size; omega) hbq, T.out.cell (p := ⟨b, i, none⟩) hb id]
        exact hc i hi)
  have TW := hid (show Touch (fun _ => False) w w3 from (T.out.trans OO.out.touch (fun k hk e => by have := HQ.out; omega)).trans TC3.out (fun _ _ e => e))
  have H0 := hid O3.out.now
  clear HL OO T O3 TC3
  go_wp2_with fail
  go_loopg [28] l.length (fun gk v7 wq => ∃ (i : Nat) (v' : Value), i + gk = l.length ∧ v7 = .int .i64 (i : Nat) ∧ Ob (fun k => k = q ∨ (Value.slice av m0.length kv).ownBlock = some k) w3 wq q v' (m0 ++ l.take i))
  case atStart => exact ⟨0, _, by omega, rfl, by simpa using H0.out⟩
  case round =>
    obtain ⟨i, v', hi, rfl, hob⟩ := hrel
    obtain ⟨o', ho'⟩ : ∃ o', o' = m0 ++ l.take i := ⟨_, rfl⟩
    have hol : o'.length ≤ 549755813888 := by rw [ho', List.length_append, List.length_take]; omega
    rw [← ho'] at hob
    have HO := hid ho'
    clear ho'
    have O := hid hob
    clear hob
    by_cases hlt2 : i < l.length
    · obtain ⟨gk, rfl⟩ : ∃ j, gk = j + 1 := ⟨gk - 1, by omega⟩
      have hltI : (i : Int) < (l.length : Int) := by omega
      obtain ⟨b, rfl, hb3, hbP, hc⟩ := HG.out i hlt2
      have hx := (O.out.touch.cell (p := ⟨b, i, none⟩) hb3 hbP).trans hc
      have hxin := HIN.out l[i] (List.getElem_mem hlt2)
      have HT2 := hid (take_more l i hlt2 m0)
      obtain ⟨x, hxe⟩ : ∃ x, l[i] = x := ⟨_, rfl⟩
      rw [hxe, ← HO.out] at HT2
      rw [hxe] at hx hxin
      have KS := hid (scalar_low x wr hxin)
      have KP := hid (PU.out wr v' o' x (fun k h1 h2 => O.out.touch.block k h2 (fun e => by
        rcases e with e | e
        · have := HS.out; omega
        · have := HOW.out k e; omega)) O.out.touch.size (fun g hg => by
        rcases O.out.new g hg with (p | p) | p
        · exact .inl (by have := HS.out; omega)
        · exact .inl (HOW.out g p)
        · exact .inr p) HS.out O.out.now hxin hol)
      have hxn : ¬ (255 < x) := by omega
      clear hxe hc hbP hxin HO
      go_wp2_with fail
      refine KS.out.mono ?_
      rintro e w5 ⟨rfl, rfl⟩
      clear KS
      go_wp2_with fail
      refine KP.out.mono ?_
      rintro e w6 ⟨rfl, v6, hb6⟩
      have O6 := hid (O.out.back hb6)
      rw [← HT2.out] at O6
      clear hb6 KP O HT2
      go_wp2
      go_roundg gk
      case measure => omega
      case rel => exact ⟨i + 1, v6, by omega, by go_num, O6.out⟩
    · have hltI : ¬ ((i : Int) < (l.length : Int)) := by omega
      have HE := hid (show o' = l by
        rw [HO.out, List.take_of_length_le (by omega), HM0.out]
        cases mark <;> rfl)
      obtain ⟨av', kv', hv'⟩ := own_shape O.out.own
      subst hv'
      obtain ⟨hc0, hcf⟩ := O.out.cell
      have hcv := conv_own O.out.own
      have TZ := hid (show Touch (fun _ => False) w wr from TW.out.trans O.out.touch (fun k hk e => by
        have h1 := HQ.out
        rcases e with e | e
        · omega
        · exact absurd e (HNW.out k hk)))
      clear HG
      go_wp2
      refine bodyPost_ret (results_tmp2 rfl _ _ _) rfl ?_
      exact ⟨by rw [← HE.out]; rfl, TZ.out⟩
end Go.Proofs.YtpjnnbegimaaeaaDoor

/- CodingBytes' walk: by Latin1 each byte is its number; conditions: the text is of at most 1048576 bytes. -/
namespace Go.Proofs.YtpjnnbegimaaeaaDoor
open Go.RowKit

theorem tk4 (s : ByteArray) (i : Nat) : tkAt s 4 i = ((byN s i : Int), 1) := rfl
theorem bg4 (s : ByteArray) : bg s 4 = (4, 0) := by
  unfold bg
  rw [if_neg (by decide)]
  split <;> rfl
theorem dc_latin (s : ByteArray) (strict : Bool) : ∀ (k i : Nat) (rs ps : List Int) (bad : Nat), i + k = s.size → dcGo s 4 strict k i rs ps bad = (none, rs ++ (List.range' i k).map (fun (j : Nat) => (byN s j : Int)), ps ++ (List.range' i k).map (fun (j : Nat) => (j : Int)), bad)
  | 0, i, rs, ps, bad, _ => by simp [dcGo]
  | k + 1, i, rs, ps, bad, h => by
    rw [dc_step (by omega), tk4, if_neg (by dsimp only; omega), dc_latin s strict k (i + 1) _ _ _ (by omega), List.range'_succ]
    simp
def bytesI (s : ByteArray) : List Int := (List.range' 0 s.size).map fun (j : Nat) => (byN s j : Int)
def placesI (s : ByteArray) : List Int := (List.range' 0 s.size).map fun (j : Nat) => (j : Int)
theorem bytesI_len (s : ByteArray) : (bytesI s).length = s.size := by simp [bytesI]
theorem placesI_len (s : ByteArray) : (placesI s ++ [(s.size : Int)]).length = s.size + 1 := by simp [placesI]
theorem bytesI_at (s : ByteArray) (i : Nat) (h : i < (bytesI s).length) : (bytesI s)[i] = (byN s i : Int) := by simp [bytesI]
theorem placesI_at (s : ByteArray) (i : Nat) (hi : i < s.size) (h : i < (placesI s ++ [(s.size : Int)]).length) : (placesI s ++ [(s.size : Int)])[i] = (i : Int) := by
  rw [List.getElem_append_left (by simpa [placesI] using hi)]
  simp [placesI]
theorem str_back (s : ByteArray) : strOfNums (bytesI s) = s := by
  apply ByteArray.ext
  apply Array.ext
  · simp [strOfNums, bytesI]
  · intro i h1 h2
    have hi : i < s.size := h2
    simp [strOfNums, bytesI]
    rw [← by_get s i hi]
    simp
    rfl
theorem latin_says (s : ByteArray) (strict : Bool) (w : World) (ht : Tabs w) (hs : s.size ≤ 1048576) : Calls Tryd.prog 10 #[.string s, .int .i64 4, .bool strict] w fun e w' => ∃ v1 v2, e = .returned (.tuple #[.agg #[.int .i64 4, v1, v2, .int .i64 0], .agg #[.int .i64 0, .int .i64 0]]) ∧ OwI w w' v1 (bytesI s) ∧ OwI w w' v2 (placesI s ++ [(s.size : Int)]) := by
  have K := decode_any s 4 strict w ht (by omega) (by omega)
  rw [bg4, dc_latin s strict s.size 0 [] [] 0 (by omega)] at K
  refine K.mono ?_
  rintro e w' (⟨i, h, _⟩ | ⟨_, ⟨v1, v2, rfl, o1, o2⟩⟩)
  · cases h
  · exact ⟨v1, v2, rfl, o1, o2⟩

set_option maxRecDepth 100000 in
set_option maxHeartbeats 8000000 in
theorem codingBytes_walk (s : ByteArray) (strict : Bool) (w : World) (ht : Tabs w) (hs : s.size ≤ 1048576) : Calls Tryd.prog 3 #[.string s, .bool strict] w fun e w' => e = .returned (.bool true) ∧ Touch (fun _ => False) w w' := by
  have HT := hid ht
  clear ht
  go_enter Tryd.func3, Tryd.ntmps3
  go_wp2_with fail
  refine (speaks_yes w HT.out).mono ?_
  rintro e w1 ⟨rfl, t1⟩
  have T1 := hid t1
  have KK := hid (latin_says s strict w1 (HT.out.new t1) hs)
  clear t1
  go_wp2_with fail
  refine KK.out.mono ?_
  rintro e w2 ⟨v1, v2, rfl, o1, o2⟩
  have T2 := hid (T1.out.trans o1.touch (fun _ _ e => e))
  have s1 := o1.sh
  have s2 := o2.sh
  obtain ⟨a1, k1, rfl, i1⟩ := s1
  obtain ⟨a2, k2, rfl, i2⟩ := s2
  have I1 := hid i1
  have I2 := hid i2
  clear i1 i2 o1 o2 T1 KK
  rw [bytesI_len, placesI_len]
  have B1 := hid (RB2.made w2 (.int .i64 4) (.slice a1 s.size k1) (.slice a2 (s.size + 1) k2) (.int .i64 0) (.int .i64 0) (.int .i64 0))
  have TA := hid (((Touch.refl (fun _ => False) w2).alloc (.cells #[.int .i64 4, .slice a1 s.size k1, .slice a2 (s.size + 1) k2, .int .i64 0] 25)).alloc (.cells #[.int .i64 0, .int .i64 0] 28))
  go_upto_region 4 with fail
  generalize ((w2.alloc (.cells #[.int .i64 4, .slice a1 s.size k1, .slice a2 (s.size + 1) k2, .int .i64 0] 25)).alloc (.cells #[.int .i64 0, .int .i64 0] 28)) = w3 at *
  obtain ⟨q, hq⟩ : ∃ q, q = w2.heap.size := ⟨_, rfl⟩
  rw [← hq] at B1 ⊢
  clear hq
  have T3 := hid (T2.out.trans TA.out (fun _ _ e => e))
  replace I1 := hid (I1.out.imp id (fun h => h.new TA.out))
  replace I2 := hid (I2.out.imp id (fun h => h.new TA.out))
  clear T2 TA
  obtain ⟨⟨q0, q1, q2, q3⟩, _⟩ := four_cells' B1.out.a
  obtain ⟨⟨p0, p1⟩, _⟩ := two_cells B1.out.b
  go_wp2_with fail
  go_loopg [7] s.size (fun gk v wq => ∃ i : Nat, i + gk = s.size ∧ v = .int .i64 (i : Nat) ∧ Touch (fun _ => False) w3 wq)
  case atStart => exact ⟨0, by omega, rfl, Touch.refl _ _⟩
  case round =>
    obtain ⟨i, hi, rfl, htc⟩ := hrel
    have TC := hid htc
    replace B1 := hid (B1.out.kept htc)
    replace I1 := hid (I1.out.imp id (fun h => h.new htc))
    replace I2 := hid (I2.out.imp id (fun h => h.new htc))
    have TR := hid (T3.out.trans htc (fun _ _ e => e))
    clear q0 q1 q2 q3 p0 p1 htc
    obtain ⟨⟨q0, q1, q2, q3⟩, _⟩ := four_cells' B1.out.a
    by_cases hlt : i < s.size
    · obtain ⟨gk, rfl⟩ : ∃ j, gk = j + 1 := ⟨gk - 1, by omega⟩
      have hltI : (i : Int) < (s.size : Int) := by omega
      obtain ⟨b1, rfl, _, c1⟩ : Ig wr a1 (bytesI s) := I1.out.resolve_left (fun e => by have := bytesI_len s; rw [e] at this; simp at this; omega)
      obtain ⟨b2, rfl, _, c2⟩ : Ig wr a2 (placesI s ++ [(s.size : Int)]) := I2.out.resolve_left (fun e => by simp at e)
      have d1 := c1 i (by rw [bytesI_len]; exact hlt)
      rw [bytesI_at] at d1
      have d2 := c2 i (by rw [placesI_len]; omega)
      rw [placesI_at s i hlt] at d2
      have hbg := by_get s i hlt
      have hbl := by_lt s i
      have hwr : IntKind.i64.wrap ((s[i].toNat : Nat) : Int) = (byN s i : Int) := by rw [hbg, IntKind.wrap_i64]; omega
      clear c1 c2
      go_upto_region 9 with fail
      go_quiet (fail)
      go_wp2
      go_roundg gk
      case measure => omega
      case rel => exact ⟨i + 1, by omega, by go_num, TC.out.drewN _⟩
    · have hltI : ¬ ((i : Int) < (s.size : Int)) := by omega
      have KE := hid (encode_latin a1 k1 (bytesI s) strict wr (HT.out.new TR.out) I1.out (fun x hx => by
        simp only [bytesI, List.mem_map] at hx
        obtain ⟨j, _, rfl⟩ := hx
        have := by_lt s j
        omega) (by rw [bytesI_len]; exact hs))
      rw [bytesI_len, str_back] at KE
      go_wp2_with fail
      refine KE.out.mono ?_
      rintro e w5 ⟨rfl, t5⟩
      have T5 := hid (TR.out.trans t5 (fun _ _ e => e))
      clear t5 KE
      go_wp2
      go_ret
      exact ⟨rfl, T5.out⟩
end Go.Proofs.YtpjnnbegimaaeaaDoor
