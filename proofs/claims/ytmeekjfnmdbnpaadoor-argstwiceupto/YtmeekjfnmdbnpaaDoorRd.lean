/- A request is read; conditions: the texts fit into memory, the library's variables lie there. -/
import Derived.Test.YtmeekjfnmdbnpaaDoorDl
import Derived.Test.YtmeekjfnmdbnpaaDoorPw
import Derived.StillTailTactics
namespace Go.Proofs.YtmeekjfnmdbnpaaDoor
open Go.RowKit
open Go.Lib

/-- What texts, two by two, make of a request; or the place of the key with which something is wrong. -/
def rdF : Nat → List Bs → List Nat → Array Value → Nat → Except Nat (Array Value)
  | 0, _, _, _, p => .error p
  | f + 1, ls, left, cs, p => match ls[p]? with
    | none => .ok cs
    | some x => match fidx x left with
      | none => .error p
      | some q => match ls[p + 1]? with
        | none => .error p
        | some y => if okR (left.getD q 0) y = true then rdF f ls (left.eraseIdx q) (cs.set! (offK (left.getD q 0)) (stR (left.getD q 0) y)) (p + 2) else .error p
def rdP : Except Nat (Array Value) → Int
  | .ok _ => 0
  | .error p => (p : Nat)
def rdB : Except Nat (Array Value) → Bool
  | .ok _ => true
  | .error _ => false
theorem m93 (v : Value) (W : World) : (method 258 93 v "ferret/args.read").run Tryd.prog W = .ok (92, v) W := by kernel_rfl
theorem m96 (v : Value) (W : World) : (method 258 96 v "ferret/args.read").run Tryd.prog W = .ok (94, v) W := by kernel_rfl
theorem m99 (v : Value) (W : World) : (method 258 99 v "ferret/args.read").run Tryd.prog W = .ok (96, v) W := by kernel_rfl
theorem Sx.kept {w w' : World} {S : Nat → Prop} (h : Sx w) (t : Touch S w w') (hs : ∀ k, k ≤ 3 → ¬ S k) : Sx w' := by
  have h3 : 3 < w.heap.size := by
    obtain ⟨ev, h1, _⟩ := h.ran
    exact Lib.lt_of_cell h1
  refine ⟨?_, ?_, ?_⟩
  · have := h.tab
    unfold TabIs World.var? at this ⊢
    rw [gPow] at this ⊢
    simp only [Option.bind_some] at this ⊢
    rw [t.block 1 (by omega) (hs 1 (by omega))]
    exact this
  · obtain ⟨ev, h1, h2⟩ := h.syn
    exact ⟨ev, by rw [t.cell (p := ⟨2, 0, none⟩) (Lib.lt_of_cell h1) (hs 2 (by omega))]; exact h1, h2⟩
  · obtain ⟨ev, h1, h2⟩ := h.ran
    exact ⟨ev, by rw [t.cell (p := ⟨3, 0, none⟩) (Lib.lt_of_cell h1) (hs 3 (by omega))]; exact h1, h2⟩
theorem offK_lt : ∀ k, k < 18 → offK k < 18 := by decide
theorem fidx_lt : ∀ (x : Bs) (left : List Nat) (q : Nat), fidx x left = some q → q < left.length
  | x, [], q, h => by cases h
  | x, k :: l, q, h => by
    unfold fidx at h
    split at h
    · obtain rfl := Option.some.inj h
      simp
    · cases hf : fidx x l with
      | none => rw [hf] at h; cases h
      | some r =>
        rw [hf] at h
        obtain rfl : r + 1 = q := Option.some.inj h
        have := fidx_lt x l r hf
        simpa using this
set_option maxRecDepth 100000 in
set_option maxHeartbeats 8000000 in
theorem read_any (b : Nat) (cs0 : Array Value) (A : Option Addr) (cap : Nat) (ls : List Bs) (w : World) (hN : Nl w (.slice A ls.length cap) ls) (hA : ∀ a, A = some a → a.block ≠ b) (hb : Rq w b cs0) (hx : Sx w) (hl : ls.length ≤ 1099511627776) (ht : ∀ t ∈ ls, t.length ≤ 1099511627776) (hlf : ∀ k ∈ List.range 18, k < 18) (hb3 : 3 < b) :
    Calls Tryd.prog 23 #[.pointer (some ⟨b, 0, none⟩), .slice A ls.length cap] w fun e w' => e = .returned (.tuple #[.int .i64 (rdP (rdF (ls.length + 2) ls (List.range 18) cs0 0)), .bool (rdB (rdF (ls.length + 2) ls (List.range 18) cs0 0))]) ∧ (∀ cs, rdF (ls.length + 2) ls (List.range 18) cs0 0 = .ok cs → Rq w' b cs) ∧ Touch (fun k => k = b) w w' := by
  obtain ⟨X, hX⟩ : ∃ X, X = rdF (ls.length + 2) ls (List.range 18) cs0 0 := ⟨_, rfl⟩
  rw [← hX]
  have HX := hid hX.symm
  have T0 := hid ((Touch.refl (fun _ => False) w).alloc (.cells #[.slice A ls.length cap] 24))
  have C0 := hid (show (w.alloc (.cells #[.slice A ls.length cap] 24)).cell? ⟨w.heap.size, 0, none⟩ = some (.slice A ls.length cap) from row_new w [.slice A ls.length cap] 24 0 _ rfl)
  have L0 := hid (show w.heap.size < (w.alloc (.cells #[.slice A ls.length cap] 24)).heap.size by show _ < (w.heap.push _).size; simp)
  have HB := hid hb
  have HSX := hid hx
  have HN := hid hN
  have HA := hid hA
  have HT := hid ht
  have LB := hid (lt_of_block hb.1)
  clear hX hb hx hN hA ht
  go_enter Tryd.func23, Tryd.ntmps23
  go_wp2_with fail
  generalize w.alloc (.cells #[.slice A ls.length cap] 24) = w0 at *
  generalize hlb : w.heap.size = lb at *
  refine (keys_any b w0).mono ?_
  rintro e w1 ⟨rfl, rfl⟩
  have T1 := hid ((T0.out.drew).alloc (.cells (flatK b (List.range 18)).toArray 87))
  have G1 := hid (show (w0.drew.alloc (.cells (flatK b (List.range 18)).toArray 87)).heap[w0.heap.size]? = some (.cells (flatK b (List.range 18)).toArray 87 (0, 0)) from by show (w0.heap.push _)[_]? = _; simp)
  have C1 := hid (show (w0.drew.alloc (.cells (flatK b (List.range 18)).toArray 87)).cell? ⟨lb, 0, none⟩ = some (.slice A ls.length cap) from cell?_alloc_some _ C0.out)
  have HLB := hid (show lb < w0.heap.size from L0.out)
  generalize w0.drew.alloc (.cells (flatK b (List.range 18)).toArray 87) = w2 at *
  generalize hg : w0.heap.size = g at *
  have KL1 := hid (show KL w2 g b (List.range 18) from ⟨fun j v hv => by
      rw [Nat.zero_add]
      have := G1.out
      simp [World.cell?, this]
      simpa using hv, fun j hj => by
      have := G1.out
      have hl : (flatK b (List.range 18)).length = 36 := by rw [flatK_len, List.length_range]
      rw [Nat.zero_add]
      refine ⟨?_, ?_⟩
      · simp [World.cell?, this]
        omega
      · simp [World.frozen?, this], lt_of_block G1.out, by simp⟩)
  clear G1 C0 L0 T0
  go_wp2_with fail
  have AT3 := hid (show (w2.alloc (.cells #[.int .i64 0] 3)).heap[w2.heap.size]? = some (.cells #[.int .i64 0] 3 (0, 0)) from by show (w2.heap.push _)[_]? = _; simp)
  have TA3 := hid ((Touch.refl (fun _ => False) w2).alloc (.cells #[.int .i64 0] 3))
  have GAB := hid (show g < w2.heap.size from KL1.out.lt)
  generalize w2.alloc (.cells #[.int .i64 0] 3) = w3 at *
  generalize hab : w2.heap.size = ab0 at *
  have HGL := hid (show b < lb ∧ lb < g from ⟨by have := LB.out; omega, by have := HLB.out; omega⟩)
  have HWL := hid (show w.heap.size = lb from hlb)
  clear hlb hg hab HLB LB
  go_loopg [6, 7] (ls.length + 2) (fun gk v6 v7 wr => ∃ (p ab : Nat) (left : List Nat) (cs : Array Value), v6 = .slice (some ⟨g, 0, none⟩) left.length 18 ∧ v7 = .pointer (some ⟨ab, 0, none⟩) ∧ p ≤ ls.length + 1 ∧ ls.length + 2 ≤ gk + p ∧ Hid (rdF gk ls left cs p = X) ∧ Hid (wr.heap[ab]? = some (.cells #[.int .i64 (p : Nat)] 3 (0, 0))) ∧ Hid (g < ab) ∧ KL wr g b left ∧ Rq wr b cs ∧ Hid (wr.cell? ⟨lb, 0, none⟩ = some (.slice A ls.length cap)) ∧ Hid (∀ k ∈ left, k < 18) ∧ Touch (fun k => k = b) w wr)
  case atStart =>
    refine ⟨0, ab0, List.range 18, cs0, rfl, rfl, by omega, by omega, HX, AT3, GAB, KL1.out.new TA3.out, HB.out.new (T1.out.trans TA3.out (fun _ _ e => e)), hid ?_, hid hlf, (T1.out.trans TA3.out (fun _ _ e => e)).mono (fun _ _ e => e.elim)⟩
    rw [TA3.out.cell (p := ⟨lb, 0, none⟩) (Lib.lt_of_cell C1.out) id]
    exact C1.out
  case round =>
    clear HX AT3 TA3 GAB KL1 C1 HB T1
    obtain ⟨p, ab, left, cs, rfl, rfl, hp1, hp2, HF, AT, HAB, hkl, hrq, CL, HLF, htw⟩ := hrel
    have HK := hid hkl
    have HR := hid hrq
    have TW := hid htw
    have ca : wr.cell? ⟨ab, 0, none⟩ = some (.int .i64 (p : Nat)) := by simp [World.cell?, AT.out]
    have cl := CL.out
    obtain ⟨G, rfl⟩ : ∃ G, gk = G + 1 := ⟨gk - 1, by omega⟩
    clear hkl hrq htw
    by_cases hlt : p < ls.length
    · have hltI : (p : Int) < (ls.length : Int) := by omega
      have HNW := hid (HN.out.kept TW.out (fun a ha _ => by
        cases hA : A with
        | none => rw [hA] at ha; simp [Value.ownBlock] at ha
        | some ad =>
          rw [hA] at ha
          simp [Value.ownBlock] at ha
          intro e
          exact HA.out ad hA (by rw [ha]; exact e)))
      obtain ⟨bb, oo, hAe, hcx⟩ := nl_at HNW.out p hlt
      obtain ⟨XB, hXB, hXs, hXd⟩ := name_ba ls[p]
      rw [hXB] at hcx
      have hpx : ls[p]? = some ls[p] := List.getElem?_eq_getElem hlt
      have HIX := hid (fun cl' => index_any XB g b lb ab bb oo ls.length cap p left wr HK.out cl' ca hcx hlt hl 18)
      rw [hXd] at HIX
      subst hAe
      have HIX2 := hid (HIX.out cl)
      clear HIX
      rw [rdF, hpx] at HF
      dsimp only at HF
      clear hpx hXB hXs hXd
      cases hfi : fidx ls[p] left with
      | none =>
        rw [hfi] at HF HIX2
        unfold idxV at HIX2
        dsimp only at HF HIX2
        have HE := hid (show X = .error p from HF.out.symm)
        clear hfi HF
        go_wp2_with fail
        refine HIX2.out.mono ?_
        rintro e w4 ⟨rfl, t4⟩
        have T4 := hid t4
        clear t4 HIX2
        have ca4 : w4.cell? ⟨ab, 0, none⟩ = some (.int .i64 (p : Nat)) := (T4.out.cell (p := ⟨ab, 0, none⟩) (Lib.lt_of_cell ca) id).trans ca
        go_wp2_with fail
        go_quiet (fail)
        go_wp2
        refine bodyPost_ret (results_tmp2 rfl _ _ _) rfl ?_
        exact ⟨by rw [HE.out]; rfl, fun cs' e => (by rw [HE.out] at e; cases e), (TW.out.trans T4.out (fun _ _ e => e.elim)).drewN _⟩
      | some q =>
        rw [hfi] at HF HIX2
        unfold idxV at HIX2
        dsimp only at HF HIX2
        have hql := fidx_lt _ _ _ hfi
        clear hfi
        go_wp2_with fail
        refine HIX2.out.mono ?_
        rintro e w4 ⟨rfl, t4⟩
        have T4 := hid t4
        clear t4 HIX2
        have ca4 : w4.cell? ⟨ab, 0, none⟩ = some (.int .i64 (p : Nat)) := (T4.out.cell (p := ⟨ab, 0, none⟩) (Lib.lt_of_cell ca) id).trans ca
        have cl4 : w4.cell? ⟨lb, 0, none⟩ = some (.slice (some ⟨bb, oo, none⟩) ls.length cap) := (T4.out.cell (p := ⟨lb, 0, none⟩) (Lib.lt_of_cell cl) id).trans cl
        have hq0 : decide ((q : Int) < 0) = false := decide_eq_false (by omega)
        obtain ⟨p1, hp1e⟩ : ∃ p1 : Nat, p1 = p + 1 := ⟨_, rfl⟩
        have hw1 : IntKind.i64.wrap ((p : Int) + 1) = (p1 : Int) := by rw [IntKind.wrap_i64]; omega
        rw [← hp1e] at HF
        by_cases hp3 : p1 < ls.length
        · have hpB : ((p1 : Int) == (ls.length : Int)) = false := by rw [beq_eq_false_iff_ne]; omega
          have hp3I : (p1 : Int) < (ls.length : Int) := by omega
          have HP1 := hid hp1e
          clear hp1e
          have HY := hid (List.getElem?_eq_getElem hp3)
          rw [HY.out] at HF
          dsimp only at HF
          obtain ⟨k, hke⟩ : ∃ k, k = left[q] := ⟨_, rfl⟩
          have hgd : left.getD q 0 = k := by rw [List.getD_eq_getElem?_getD, List.getElem?_eq_getElem hql, hke]; rfl
          rw [hgd] at HF
          have hk18 : k < 18 := HLF.out k (by rw [hke]; exact List.getElem_mem hql)
          obtain ⟨r1, r2⟩ := (HK.out.new T4.out).at q hql
          rw [← hke] at r2
          obtain ⟨bb2, oo2, hAe2, hcy⟩ := nl_at (HNW.out.new T4.out) p1 hp3
          simp only [Option.some.injEq, Addr.mk.injEq, and_true] at hAe2
          obtain ⟨rfl, rfl⟩ := hAe2
          obtain ⟨YB, hYB, hYs, hYd⟩ := name_ba ls[p1]
          rw [hYB] at hcy
          have hYb : YB.size ≤ 1099511627776 := by rw [hYs]; exact HT.out _ (List.getElem_mem hp3)
          have HR4 := hid (HR.out.new T4.out)
          have TW4 := hid (TW.out.trans T4.out (fun _ _ e => e.elim))
          have SX4 := hid (show ∀ W', Touch (fun k => k = b) w W' → Sx W' from fun W' tW => HSX.out.kept tW (fun k hk e => by omega))
          rw [← hYd] at HF
          have hqI : (q : Int) < (left.length : Int) := by omega
          unfold kv at r2
          have HK0 := hid hke
          clear hke hgd hYB hYs hYd HY hcx
          by_cases hk5 : k < 5
          ·
            have e93 : kd k = 93 := by unfold kd; rw [if_pos hk5]
            rw [e93] at r2
            have ek : okR k YB.data.toList = (rn YB.data.toList).isSome := by unfold okR; rw [if_pos hk5]
            have es : stR k YB.data.toList = .int .i64 ((rn YB.data.toList).getD 0) := by unfold stR; rw [if_pos hk5]
            have KR := hid (show ∀ W, Rq W b cs → Sx W → Calls Tryd.prog 92 #[.agg #[.pointer (some ⟨b, offK k, none⟩)], .string YB] W fun e w' => e = .returned (.bool (okR k YB.data.toList)) ∧ Rq w' b (cs.set! (offK k) (stR k YB.data.toList)) ∧ Touch (fun k => k = b) W w' from fun W hW _hSx => by
              rw [ek, es]
              exact rnum_any b (offK k) YB W cs hW (offK_lt k hk18) (by omega) _hSx)
            clear ek es e93 r1
            have HOK := hid (offK_lt k hk18)
            generalize offK k = ok at *
            generalize okR k YB.data.toList = B at *
            generalize stR k YB.data.toList = V at *
            go_wp2_with fail
            refine wp_region_still_tail 22 (by kernel_rfl) (by kernel_rfl) ?_
            have TD := hid ((Touch.refl (fun _ => False) w4).drew)
            have d1 : w4.drew.cell? ⟨ab, 0, none⟩ = some (.int .i64 (p : Nat)) := ca4
            have d2 : w4.drew.cell? ⟨lb, 0, none⟩ = some (.slice (some ⟨bb, oo, none⟩) ls.length cap) := cl4
            have d3 : w4.drew.cell? ⟨g, q * 2 + 1, none⟩ = some (.iface 93 (.agg #[.pointer (some ⟨b, ok, none⟩)])) := r2
            have d4 : w4.drew.cell? ⟨bb, oo + p1, none⟩ = some (.string YB) := hcy
            change wpStill _ _ w4.drew _ _ _
            have hmth := m93
            dsimp only [List.take_succ_cons, List.take_zero, List.drop_succ_cons, List.drop_zero]
            iterate 22 still_step
            refine wpStill_nil ?_
            have TWD := hid (TW4.out.trans TD.out (fun _ _ e => e.elim))
            have KR2 := hid (KR.out w4.drew (HR4.out.new TD.out) (SX4.out w4.drew TWD.out))
            clear KR
            go_wp2_with fail
            refine KR2.out.mono ?_
            rintro e w5 ⟨rfl, rq5, t5⟩
            have RQ5 := hid rq5
            have T5 := hid t5
            clear t5 rq5 KR2
            have c5 : w5.cell? ⟨ab, 0, none⟩ = some (.int .i64 (p : Nat)) := (T5.out.cell (p := ⟨ab, 0, none⟩) (Lib.lt_of_cell d1) (fun e => by have e' : ab = b := e; have h1 := HAB.out; have h2 := HGL.out; omega)).trans d1
            cases B with
            | false =>
              rw [if_neg (by decide)] at HF
              have HE := hid (show X = .error p from HF.out.symm)
              clear HF d1 d2 d3 d4 ca cl ca4 cl4 hcy r2
              go_wp2
              refine bodyPost_ret (results_tmp2 rfl _ _ _) rfl ?_
              exact ⟨by rw [HE.out]; rfl, fun cs' e => (by rw [HE.out] at e; cases e), TWD.out.trans T5.out (fun _ _ e => e)⟩
            | true =>
              rw [if_pos rfl] at HF
              have KL5 := hid ((HK.out.new (T4.out.trans TD.out (fun _ _ e => e))).kept T5.out (fun e => by have h2 := HGL.out; omega))
              have AT5 := hid (show w5.heap[ab]? = some (.cells #[.int .i64 (p : Nat)] 3 (0, 0)) from by
                have l0 := lt_of_block AT.out
                have hz := (T4.out.trans TD.out (fun _ _ e => e)).size
                rw [T5.out.block ab (Nat.lt_of_lt_of_le l0 hz) (fun e => by have e' : ab = b := e; have h1 := HAB.out; have h2 := HGL.out; omega), (T4.out.trans TD.out (fun _ _ e => e)).block ab l0 id]
                exact AT.out)
              have CL5 := hid (show w5.cell? ⟨lb, 0, none⟩ = some (.slice (some ⟨bb, oo, none⟩) ls.length cap) from (T5.out.cell (p := ⟨lb, 0, none⟩) (Lib.lt_of_cell d2) (fun e => by have e' : lb = b := e; have h2 := HGL.out; omega)).trans d2)
              obtain ⟨q1, hq1⟩ : ∃ q1, q1 = q + 1 := ⟨_, rfl⟩
              have hq1I : (q : Int) + 1 = (q1 : Int) := by omega
              have hq1b : q1 ≤ 18 := by have := HK.out.len; omega
              have KD := hid (delete_any g b q q1 left w5 KL5.out hql hq1)
              have HEL := hid (show (left.eraseIdx q).length = left.length - 1 by rw [List.length_eraseIdx, if_pos hql])
              clear d1 d2 d3 d4 hq1 ca cl ca4 cl4 hcy r2 c5 hmth
              go_wp2_with fail
              refine KD.out.mono ?_
              rintro e w6 ⟨rfl, kl6, t6⟩
              have KL6 := hid kl6
              have T6 := hid t6
              clear t6 kl6 KD
              have hne : ab ≠ g := by have := HAB.out; omega
              have AT6 := hid ((T6.out.block ab (lt_of_block AT5.out) hne).trans AT5.out)
              have CL6 := hid ((T6.out.cell (p := ⟨lb, 0, none⟩) (Lib.lt_of_cell CL5.out) (fun e => by have e' : lb = g := e; have h2 := HGL.out; omega)).trans CL5.out)
              have RQ6 := hid (RQ5.out.kept T6.out (fun e => by have e' : b = g := e; have h2 := HGL.out; omega))
              have c6 : w6.cell? ⟨ab, 0, none⟩ = some (.int .i64 (p : Nat)) := by simp [World.cell?, AT6.out]
              have LW6 := hid (show g < w6.heap.size from KL6.out.lt)
              clear AT5 CL5 RQ5 KL5
              go_upto_region 4 with fail
              have AT7 := hid (show (w6.alloc (.cells #[.int .i64 (p : Nat)] 3)).heap[w6.heap.size]? = some (.cells #[.int .i64 (p : Nat)] 3 (0, 0)) from by show (w6.heap.push _)[_]? = _; simp)
              have TA7 := hid ((Touch.refl (fun _ => False) w6).alloc (.cells #[.int .i64 (p : Nat)] 3))
              generalize w6.alloc (.cells #[.int .i64 (p : Nat)] 3) = w7 at *
              have HS7 := hid (show w.heap.size ≤ w6.heap.size from Nat.le_trans TWD.out.size (Nat.le_trans T5.out.size T6.out.size))
              generalize w6.heap.size = ab7 at *
              have c7 : w7.cell? ⟨ab7, 0, none⟩ = some (.int .i64 (p : Nat)) := by simp [World.cell?, AT7.out]
              have f7 := free_of (i := 0) AT7.out
              obtain ⟨p2, hp2e⟩ : ∃ p2, p2 = p + 2 := ⟨_, rfl⟩
              rw [← hp2e] at HF
              have hp2I : (p : Int) + 2 = (p2 : Int) := by omega
              have HP2 := hid hp2e
              clear hp2e c6
              go_wp2
              go_roundg G
              case measure => omega
              case rel =>
                have hp2 := HP2.out
                have hp1 := HP1.out
                have TS := (Touch.refl (fun k => k = ab7) w7).setCell (p := ⟨ab7, 0, none⟩) (fun _ => rfl) (.int .i64 (p2 : Nat))
                have hg7 : ¬ g = ab7 := by have := LW6.out; omega
                have hb7 : ¬ b = ab7 := by have := LW6.out; have := HGL.out; omega
                have hl7 : ¬ lb = ab7 := by have := LW6.out; have := HGL.out; omega
                refine ⟨p2, ab7, left.eraseIdx q, cs.set! ok V, by rw [HEL.out], rfl, by omega, by omega, HF, hid (block_set AT7.out 0 _), LW6, (KL6.out.new TA7.out).kept TS hg7, (RQ6.out.new TA7.out).kept TS hb7, hid ?_, hid (fun k hk => HLF.out k (List.mem_of_mem_eraseIdx hk)), ?_⟩
                · rw [TS.cell (p := ⟨lb, 0, none⟩) (Nat.lt_of_lt_of_le (Lib.lt_of_cell CL6.out) TA7.out.size) hl7, TA7.out.cell (p := ⟨lb, 0, none⟩) (Lib.lt_of_cell CL6.out) id]
                  exact CL6.out
                · have ht1 := TWD.out.trans T5.out (fun _ _ e => e)
                  have ht2 := ht1.trans T6.out (fun i hi e => by have e' : i = g := e; have h1 := HGL.out; have h2 := HWL.out; omega)
                  have ht3 := ht2.trans TA7.out (fun _ _ e => e.elim)
                  exact ht3.trans TS (fun i hi e => by have e' : i = ab7 := e; have := HS7.out; omega)
          by_cases hk15 : k < 15
          ·
            have e93 : kd k = 96 := by unfold kd; rw [if_neg hk5, if_pos hk15]
            rw [e93] at r2
            have ek : okR k YB.data.toList = (decide (YB.data.toList = yesB) || decide (YB.data.toList = noB)) := by unfold okR; rw [if_neg hk5, if_pos hk15]
            have es : stR k YB.data.toList = .bool (decide (YB.data.toList = yesB)) := by unfold stR; rw [if_neg hk5, if_pos hk15]
            have KR := hid (show ∀ W, Rq W b cs → Sx W → Calls Tryd.prog 94 #[.agg #[.pointer (some ⟨b, offK k, none⟩)], .string YB] W fun e w' => e = .returned (.bool (okR k YB.data.toList)) ∧ Rq w' b (cs.set! (offK k) (stR k YB.data.toList)) ∧ Touch (fun k => k = b) W w' from fun W hW _hSx => by
              rw [ek, es]
              exact rchoice_any b (offK k) YB W cs hW (offK_lt k hk18))
            clear ek es e93 r1
            have HOK := hid (offK_lt k hk18)
            generalize offK k = ok at *
            generalize okR k YB.data.toList = B at *
            generalize stR k YB.data.toList = V at *
            go_wp2_with fail
            refine wp_region_still_tail 22 (by kernel_rfl) (by kernel_rfl) ?_
            have TD := hid ((Touch.refl (fun _ => False) w4).drew)
            have d1 : w4.drew.cell? ⟨ab, 0, none⟩ = some (.int .i64 (p : Nat)) := ca4
            have d2 : w4.drew.cell? ⟨lb, 0, none⟩ = some (.slice (some ⟨bb, oo, none⟩) ls.length cap) := cl4
            have d3 : w4.drew.cell? ⟨g, q * 2 + 1, none⟩ = some (.iface 96 (.agg #[.pointer (some ⟨b, ok, none⟩)])) := r2
            have d4 : w4.drew.cell? ⟨bb, oo + p1, none⟩ = some (.string YB) := hcy
            change wpStill _ _ w4.drew _ _ _
            have hmth := m96
            dsimp only [List.take_succ_cons, List.take_zero, List.drop_succ_cons, List.drop_zero]
            iterate 22 still_step
            refine wpStill_nil ?_
            have TWD := hid (TW4.out.trans TD.out (fun _ _ e => e.elim))
            have KR2 := hid (KR.out w4.drew (HR4.out.new TD.out) (SX4.out w4.drew TWD.out))
            clear KR
            go_wp2_with fail
            refine KR2.out.mono ?_
            rintro e w5 ⟨rfl, rq5, t5⟩
            have RQ5 := hid rq5
            have T5 := hid t5
            clear t5 rq5 KR2
            have c5 : w5.cell? ⟨ab, 0, none⟩ = some (.int .i64 (p : Nat)) := (T5.out.cell (p := ⟨ab, 0, none⟩) (Lib.lt_of_cell d1) (fun e => by have e' : ab = b := e; have h1 := HAB.out; have h2 := HGL.out; omega)).trans d1
            cases B with
            | false =>
              rw [if_neg (by decide)] at HF
              have HE := hid (show X = .error p from HF.out.symm)
              clear HF d1 d2 d3 d4 ca cl ca4 cl4 hcy r2
              go_wp2
              refine bodyPost_ret (results_tmp2 rfl _ _ _) rfl ?_
              exact ⟨by rw [HE.out]; rfl, fun cs' e => (by rw [HE.out] at e; cases e), TWD.out.trans T5.out (fun _ _ e => e)⟩
            | true =>
              rw [if_pos rfl] at HF
              have KL5 := hid ((HK.out.new (T4.out.trans TD.out (fun _ _ e => e))).kept T5.out (fun e => by have h2 := HGL.out; omega))
              have AT5 := hid (show w5.heap[ab]? = some (.cells #[.int .i64 (p : Nat)] 3 (0, 0)) from by
                have l0 := lt_of_block AT.out
                have hz := (T4.out.trans TD.out (fun _ _ e => e)).size
                rw [T5.out.block ab (Nat.lt_of_lt_of_le l0 hz) (fun e => by have e' : ab = b := e; have h1 := HAB.out; have h2 := HGL.out; omega), (T4.out.trans TD.out (fun _ _ e => e)).block ab l0 id]
                exact AT.out)
              have CL5 := hid (show w5.cell? ⟨lb, 0, none⟩ = some (.slice (some ⟨bb, oo, none⟩) ls.length cap) from (T5.out.cell (p := ⟨lb, 0, none⟩) (Lib.lt_of_cell d2) (fun e => by have e' : lb = b := e; have h2 := HGL.out; omega)).trans d2)
              obtain ⟨q1, hq1⟩ : ∃ q1, q1 = q + 1 := ⟨_, rfl⟩
              have hq1I : (q : Int) + 1 = (q1 : Int) := by omega
              have hq1b : q1 ≤ 18 := by have := HK.out.len; omega
              have KD := hid (delete_any g b q q1 left w5 KL5.out hql hq1)
              have HEL := hid (show (left.eraseIdx q).length = left.length - 1 by rw [List.length_eraseIdx, if_pos hql])
              clear d1 d2 d3 d4 hq1 ca cl ca4 cl4 hcy r2 c5 hmth
              go_wp2_with fail
              refine KD.out.mono ?_
              rintro e w6 ⟨rfl, kl6, t6⟩
              have KL6 := hid kl6
              have T6 := hid t6
              clear t6 kl6 KD
              have hne : ab ≠ g := by have := HAB.out; omega
              have AT6 := hid ((T6.out.block ab (lt_of_block AT5.out) hne).trans AT5.out)
              have CL6 := hid ((T6.out.cell (p := ⟨lb, 0, none⟩) (Lib.lt_of_cell CL5.out) (fun e => by have e' : lb = g := e; have h2 := HGL.out; omega)).trans CL5.out)
              have RQ6 := hid (RQ5.out.kept T6.out (fun e => by have e' : b = g := e; have h2 := HGL.out; omega))
              have c6 : w6.cell? ⟨ab, 0, none⟩ = some (.int .i64 (p : Nat)) := by simp [World.cell?, AT6.out]
              have LW6 := hid (show g < w6.heap.size from KL6.out.lt)
              clear AT5 CL5 RQ5 KL5
              go_upto_region 4 with fail
              have AT7 := hid (show (w6.alloc (.cells #[.int .i64 (p : Nat)] 3)).heap[w6.heap.size]? = some (.cells #[.int .i64 (p : Nat)] 3 (0, 0)) from by show (w6.heap.push _)[_]? = _; simp)
              have TA7 := hid ((Touch.refl (fun _ => False) w6).alloc (.cells #[.int .i64 (p : Nat)] 3))
              generalize w6.alloc (.cells #[.int .i64 (p : Nat)] 3) = w7 at *
              have HS7 := hid (show w.heap.size ≤ w6.heap.size from Nat.le_trans TWD.out.size (Nat.le_trans T5.out.size T6.out.size))
              generalize w6.heap.size = ab7 at *
              have c7 : w7.cell? ⟨ab7, 0, none⟩ = some (.int .i64 (p : Nat)) := by simp [World.cell?, AT7.out]
              have f7 := free_of (i := 0) AT7.out
              obtain ⟨p2, hp2e⟩ : ∃ p2, p2 = p + 2 := ⟨_, rfl⟩
              rw [← hp2e] at HF
              have hp2I : (p : Int) + 2 = (p2 : Int) := by omega
              have HP2 := hid hp2e
              clear hp2e c6
              go_wp2
              go_roundg G
              case measure => omega
              case rel =>
                have hp2 := HP2.out
                have hp1 := HP1.out
                have TS := (Touch.refl (fun k => k = ab7) w7).setCell (p := ⟨ab7, 0, none⟩) (fun _ => rfl) (.int .i64 (p2 : Nat))
                have hg7 : ¬ g = ab7 := by have := LW6.out; omega
                have hb7 : ¬ b = ab7 := by have := LW6.out; have := HGL.out; omega
                have hl7 : ¬ lb = ab7 := by have := LW6.out; have := HGL.out; omega
                refine ⟨p2, ab7, left.eraseIdx q, cs.set! ok V, by rw [HEL.out], rfl, by omega, by omega, HF, hid (block_set AT7.out 0 _), LW6, (KL6.out.new TA7.out).kept TS hg7, (RQ6.out.new TA7.out).kept TS hb7, hid ?_, hid (fun k hk => HLF.out k (List.mem_of_mem_eraseIdx hk)), ?_⟩
                · rw [TS.cell (p := ⟨lb, 0, none⟩) (Nat.lt_of_lt_of_le (Lib.lt_of_cell CL6.out) TA7.out.size) hl7, TA7.out.cell (p := ⟨lb, 0, none⟩) (Lib.lt_of_cell CL6.out) id]
                  exact CL6.out
                · have ht1 := TWD.out.trans T5.out (fun _ _ e => e)
                  have ht2 := ht1.trans T6.out (fun i hi e => by have e' : i = g := e; have h1 := HGL.out; have h2 := HWL.out; omega)
                  have ht3 := ht2.trans TA7.out (fun _ _ e => e.elim)
                  exact ht3.trans TS (fun i hi e => by have e' : i = ab7 := e; have := HS7.out; omega)
          ·
            have e93 : kd k = 99 := by unfold kd; rw [if_neg hk5, if_neg hk15]
            rw [e93] at r2
            have ek : okR k YB.data.toList = true := by unfold okR; rw [if_neg hk5, if_neg hk15]
            have es : stR k YB.data.toList = .string YB := by unfold stR; rw [if_neg hk5, if_neg hk15]; rfl
            have KR := hid (show ∀ W, Rq W b cs → Sx W → Calls Tryd.prog 96 #[.agg #[.pointer (some ⟨b, offK k, none⟩)], .string YB] W fun e w' => e = .returned (.bool (okR k YB.data.toList)) ∧ Rq w' b (cs.set! (offK k) (stR k YB.data.toList)) ∧ Touch (fun k => k = b) W w' from fun W hW _hSx => by
              rw [ek, es]
              exact rtext_any b (offK k) YB W cs hW (offK_lt k hk18))
            clear ek es e93 r1
            have HOK := hid (offK_lt k hk18)
            generalize offK k = ok at *
            generalize okR k YB.data.toList = B at *
            generalize stR k YB.data.toList = V at *
            go_wp2_with fail
            refine wp_region_still_tail 22 (by kernel_rfl) (by kernel_rfl) ?_
            have TD := hid ((Touch.refl (fun _ => False) w4).drew)
            have d1 : w4.drew.cell? ⟨ab, 0, none⟩ = some (.int .i64 (p : Nat)) := ca4
            have d2 : w4.drew.cell? ⟨lb, 0, none⟩ = some (.slice (some ⟨bb, oo, none⟩) ls.length cap) := cl4
            have d3 : w4.drew.cell? ⟨g, q * 2 + 1, none⟩ = some (.iface 99 (.agg #[.pointer (some ⟨b, ok, none⟩)])) := r2
            have d4 : w4.drew.cell? ⟨bb, oo + p1, none⟩ = some (.string YB) := hcy
            change wpStill _ _ w4.drew _ _ _
            have hmth := m99
            dsimp only [List.take_succ_cons, List.take_zero, List.drop_succ_cons, List.drop_zero]
            iterate 22 still_step
            refine wpStill_nil ?_
            have TWD := hid (TW4.out.trans TD.out (fun _ _ e => e.elim))
            have KR2 := hid (KR.out w4.drew (HR4.out.new TD.out) (SX4.out w4.drew TWD.out))
            clear KR
            go_wp2_with fail
            refine KR2.out.mono ?_
            rintro e w5 ⟨rfl, rq5, t5⟩
            have RQ5 := hid rq5
            have T5 := hid t5
            clear t5 rq5 KR2
            have c5 : w5.cell? ⟨ab, 0, none⟩ = some (.int .i64 (p : Nat)) := (T5.out.cell (p := ⟨ab, 0, none⟩) (Lib.lt_of_cell d1) (fun e => by have e' : ab = b := e; have h1 := HAB.out; have h2 := HGL.out; omega)).trans d1
            cases B with
            | false =>
              rw [if_neg (by decide)] at HF
              have HE := hid (show X = .error p from HF.out.symm)
              clear HF d1 d2 d3 d4 ca cl ca4 cl4 hcy r2
              go_wp2
              refine bodyPost_ret (results_tmp2 rfl _ _ _) rfl ?_
              exact ⟨by rw [HE.out]; rfl, fun cs' e => (by rw [HE.out] at e; cases e), TWD.out.trans T5.out (fun _ _ e => e)⟩
            | true =>
              rw [if_pos rfl] at HF
              have KL5 := hid ((HK.out.new (T4.out.trans TD.out (fun _ _ e => e))).kept T5.out (fun e => by have h2 := HGL.out; omega))
              have AT5 := hid (show w5.heap[ab]? = some (.cells #[.int .i64 (p : Nat)] 3 (0, 0)) from by
                have l0 := lt_of_block AT.out
                have hz := (T4.out.trans TD.out (fun _ _ e => e)).size
                rw [T5.out.block ab (Nat.lt_of_lt_of_le l0 hz) (fun e => by have e' : ab = b := e; have h1 := HAB.out; have h2 := HGL.out; omega), (T4.out.trans TD.out (fun _ _ e => e)).block ab l0 id]
                exact AT.out)
              have CL5 := hid (show w5.cell? ⟨lb, 0, none⟩ = some (.slice (some ⟨bb, oo, none⟩) ls.length cap) from (T5.out.cell (p := ⟨lb, 0, none⟩) (Lib.lt_of_cell d2) (fun e => by have e' : lb = b := e; have h2 := HGL.out; omega)).trans d2)
              obtain ⟨q1, hq1⟩ : ∃ q1, q1 = q + 1 := ⟨_, rfl⟩
              have hq1I : (q : Int) + 1 = (q1 : Int) := by omega
              have hq1b : q1 ≤ 18 := by have := HK.out.len; omega
              have KD := hid (delete_any g b q q1 left w5 KL5.out hql hq1)
              have HEL := hid (show (left.eraseIdx q).length = left.length - 1 by rw [List.length_eraseIdx, if_pos hql])
              clear d1 d2 d3 d4 hq1 ca cl ca4 cl4 hcy r2 c5 hmth
              go_wp2_with fail
              refine KD.out.mono ?_
              rintro e w6 ⟨rfl, kl6, t6⟩
              have KL6 := hid kl6
              have T6 := hid t6
              clear t6 kl6 KD
              have hne : ab ≠ g := by have := HAB.out; omega
              have AT6 := hid ((T6.out.block ab (lt_of_block AT5.out) hne).trans AT5.out)
              have CL6 := hid ((T6.out.cell (p := ⟨lb, 0, none⟩) (Lib.lt_of_cell CL5.out) (fun e => by have e' : lb = g := e; have h2 := HGL.out; omega)).trans CL5.out)
              have RQ6 := hid (RQ5.out.kept T6.out (fun e => by have e' : b = g := e; have h2 := HGL.out; omega))
              have c6 : w6.cell? ⟨ab, 0, none⟩ = some (.int .i64 (p : Nat)) := by simp [World.cell?, AT6.out]
              have LW6 := hid (show g < w6.heap.size from KL6.out.lt)
              clear AT5 CL5 RQ5 KL5
              go_upto_region 4 with fail
              have AT7 := hid (show (w6.alloc (.cells #[.int .i64 (p : Nat)] 3)).heap[w6.heap.size]? = some (.cells #[.int .i64 (p : Nat)] 3 (0, 0)) from by show (w6.heap.push _)[_]? = _; simp)
              have TA7 := hid ((Touch.refl (fun _ => False) w6).alloc (.cells #[.int .i64 (p : Nat)] 3))
              generalize w6.alloc (.cells #[.int .i64 (p : Nat)] 3) = w7 at *
              have HS7 := hid (show w.heap.size ≤ w6.heap.size from Nat.le_trans TWD.out.size (Nat.le_trans T5.out.size T6.out.size))
              generalize w6.heap.size = ab7 at *
              have c7 : w7.cell? ⟨ab7, 0, none⟩ = some (.int .i64 (p : Nat)) := by simp [World.cell?, AT7.out]
              have f7 := free_of (i := 0) AT7.out
              obtain ⟨p2, hp2e⟩ : ∃ p2, p2 = p + 2 := ⟨_, rfl⟩
              rw [← hp2e] at HF
              have hp2I : (p : Int) + 2 = (p2 : Int) := by omega
              have HP2 := hid hp2e
              clear hp2e c6
              go_wp2
              go_roundg G
              case measure => omega
              case rel =>
                have hp2 := HP2.out
                have hp1 := HP1.out
                have TS := (Touch.refl (fun k => k = ab7) w7).setCell (p := ⟨ab7, 0, none⟩) (fun _ => rfl) (.int .i64 (p2 : Nat))
                have hg7 : ¬ g = ab7 := by have := LW6.out; omega
                have hb7 : ¬ b = ab7 := by have := LW6.out; have := HGL.out; omega
                have hl7 : ¬ lb = ab7 := by have := LW6.out; have := HGL.out; omega
                refine ⟨p2, ab7, left.eraseIdx q, cs.set! ok V, by rw [HEL.out], rfl, by omega, by omega, HF, hid (block_set AT7.out 0 _), LW6, (KL6.out.new TA7.out).kept TS hg7, (RQ6.out.new TA7.out).kept TS hb7, hid ?_, hid (fun k hk => HLF.out k (List.mem_of_mem_eraseIdx hk)), ?_⟩
                · rw [TS.cell (p := ⟨lb, 0, none⟩) (Nat.lt_of_lt_of_le (Lib.lt_of_cell CL6.out) TA7.out.size) hl7, TA7.out.cell (p := ⟨lb, 0, none⟩) (Lib.lt_of_cell CL6.out) id]
                  exact CL6.out
                · have ht1 := TWD.out.trans T5.out (fun _ _ e => e)
                  have ht2 := ht1.trans T6.out (fun i hi e => by have e' : i = g := e; have h1 := HGL.out; have h2 := HWL.out; omega)
                  have ht3 := ht2.trans TA7.out (fun _ _ e => e.elim)
                  exact ht3.trans TS (fun i hi e => by have e' : i = ab7 := e; have := HS7.out; omega)
        · have hpB : ((p1 : Int) == (ls.length : Int)) = true := by rw [beq_iff_eq]; omega
          have hpn : ls[p1]? = none := List.getElem?_eq_none (by omega)
          rw [hpn] at HF
          dsimp only at HF
          have HE := hid (show X = .error p from HF.out.symm)
          have HP1 := hid hp1e
          clear HF hpn hp1e
          go_wp2_with fail
          go_quiet (fail)
          go_wp2
          refine bodyPost_ret (results_tmp2 rfl _ _ _) rfl ?_
          exact ⟨by rw [HE.out]; rfl, fun cs' e => (by rw [HE.out] at e; cases e), (TW.out.trans T4.out (fun _ _ e => e.elim)).drewN _⟩
    · have hltI : ¬ (p : Int) < (ls.length : Int) := by omega
      have hpn : ls[p]? = none := List.getElem?_eq_none (by omega)
      rw [rdF, hpn] at HF
      have HE := hid (show X = .ok cs from HF.out.symm)
      clear HF hpn
      go_wp2
      refine bodyPost_ret (results_tmp2 rfl _ _ _) rfl ?_
      exact ⟨by rw [HE.out]; rfl, fun cs' e => (by rw [HE.out] at e; cases e; exact HR.out), TW.out⟩
end Go.Proofs.YtmeekjfnmdbnpaaDoor
