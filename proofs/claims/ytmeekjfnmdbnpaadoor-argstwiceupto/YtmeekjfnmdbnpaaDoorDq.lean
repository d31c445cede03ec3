/- The document's Parse; condition: the text fits into memory. -/
import Derived.Test.YtmeekjfnmdbnpaaDoorDp
import Derived.Test.YtmeekjfnmdbnpaaDoorPt
import Derived.Test.YtmeekjfnmdbnpaaDoorNr
import Derived.Test.YtmeekjfnmdbnpaaDoorRu
namespace Go.Proofs.YtmeekjfnmdbnpaaDoor
open Go.RowKit
open Go.Lib

def v18 : Array Value := #[.int .i64 0, .int .i64 0, .int .i64 0, .int .i64 0, .int .i64 0, .bool false, .bool false, .bool false, .bool false, .bool false, .bool false, .bool false, .bool false, .bool false, .bool false, .string ⟨#[]⟩, .string ⟨#[]⟩, .string ⟨#[]⟩]
theorem one18 : v18.all (·.oneCell') = true := by kernel_rfl
theorem v18_one : ∀ v ∈ v18.toList, v.oneCell' = true := by
  intro v hv
  simp [v18] at hv
  rcases hv with rfl | rfl | rfl <;> rfl
theorem info46 : (Tryd.prog.info? 46).map (·.size) = some v18.size := by kernel_rfl
/-- What reading tells, by the document's words: the values, the error's number and place. -/
def dV : Except Nat (Array Value) → Array Value
  | .ok v => v
  | .error _ => v18
def dE : Except Nat (Array Value) → Int
  | .ok _ => 0
  | .error _ => 29
def dA : Except Nat (Array Value) → Int
  | .ok _ => 0
  | .error p => (p : Nat)
theorem results_ctt {P : Program} {fn : Func} {t u p : Tmp} {ty : TypeId} (h : fn.results = #[.cell p ty, .tmp t, .tmp u]) (tmps : Array Value) (w : World) (g : Nat) (et : TypeId) (cs : Array Value) (fr : Nat × Nat) (d : TypeDesc)
    (hp : tmps.getD p undef = .pointer (some ⟨g, 0, none⟩)) (hg : w.heap[g]? = some (.cells cs et fr))
    (hu : P.underlying ty = some d) (hd : (match d with | .struct _ | .array _ _ => true | _ => false) = true) (hi : (P.info? ty).map (·.size) = some cs.size) :
    (results fn tmps).run P w = .ok (.tuple #[.agg cs, tmps.getD t undef, tmps.getD u undef]) w := by
  have hp1 : tmps[p]?.getD undef = .pointer (some ⟨g, 0, none⟩) := by simpa using hp
  simp [results, h, hp1, asAddr, run_loadVar_row w g et ty cs fr d hg hu hd hi]
theorem blk_new {w : World} (cs : Array Value) (t : TypeId) : (w.alloc (.cells cs t)).heap[w.heap.size]? = some (.cells cs t (0, 0)) := by
  show (w.heap.push _)[_]? = _
  simp
theorem bools_set (ms : List Bool) (k : Nat) : (ms.map Value.bool).toArray.set! k (.bool true) = ((ms.set k true).map Value.bool).toArray := by
  rw [List.map_set, Array.set!_eq_setIfInBounds, List.setIfInBounds_toArray]
theorem key_cell {w : World} {q : Nat} (h : Nl w (.slice (some ⟨q, 0, none⟩) 18 18) words) (j : Nat) (hj : j < 18) : w.cell? ⟨q, j, none⟩ = some (sv (wordB j)) := by
  obtain ⟨b, o, e, hc⟩ := nl_at h j hj
  simp only [Option.some.injEq, Addr.mk.injEq, and_true] at e
  obtain ⟨rfl, rfl⟩ := e
  rw [Nat.zero_add] at hc
  rw [hc]
  unfold wordB
  rw [List.getD_eq_getElem?_getD, List.getElem?_eq_getElem hj]
  rfl
set_option maxRecDepth 100000 in
set_option maxHeartbeats 8000000 in
theorem dparse_bad (s : ByteArray) (p : Nat) (w : World) (hs : s.size ≤ 1099511627776) (hu : un s.data.toList = .error p) :
    Calls Tryd.prog 14 #[.string s] w fun e w' => e = .returned (.tuple #[.agg v18, .int .i64 4, .int .i64 (p : Nat)]) ∧ Touch (fun _ => False) w w' := by
  have TA := hid (((Touch.refl (fun _ => False) w).alloc (.cells v18 46)).alloc (.cells v18 46))
  have B2 := hid (show ((w.alloc (.cells v18 46)).alloc (.cells v18 46)).heap[w.heap.size]? = some (.cells v18 46 (0, 0)) from by
    rw [Below.heap_alloc _ _ _ (by show _ < (w.heap.push _).size; simp)]
    show (w.heap.push _)[_]? = _
    simp)
  have B5 := hid (show ((w.alloc (.cells v18 46)).alloc (.cells v18 46)).heap[w.heap.size + 1]? = some (.cells v18 46 (0, 0)) from by
    have := blk_new (w := w.alloc (.cells v18 46)) v18 46
    rw [show (w.alloc (.cells v18 46)).heap.size = w.heap.size + 1 from by show (w.heap.push _).size = _; simp] at this
    exact this)
  have K := hid (runpack_any s ((w.alloc (.cells v18 46)).alloc (.cells v18 46)) hs)
  rw [hu] at K
  unfold faE faA okL at K
  dsimp only at K
  clear hu
  go_enter Tryd.func14, Tryd.ntmps14
  go_wp2_with fail
  change Calls _ _ _ ((w.alloc (.cells v18 46)).alloc (.cells v18 46)) _
  generalize (w.alloc (.cells v18 46)).alloc (.cells v18 46) = wa at *
  obtain ⟨q2, hq2⟩ : ∃ q2, q2 = w.heap.size := ⟨_, rfl⟩
  obtain ⟨q5, hq5⟩ : ∃ q5, q5 = w.heap.size + 1 := ⟨_, rfl⟩
  rw [← hq5] at B5 ⊢
  rw [← hq2] at B2 ⊢
  have HQ := hid (show w.heap.size ≤ q2 ∧ q2 < q5 from ⟨by omega, by omega⟩)
  clear hq2 hq5
  refine K.out.mono ?_
  rintro e w1 ⟨v1, rfl, ow1⟩
  obtain ⟨a1, c1, hv1⟩ := own_shape ow1.own
  subst hv1
  have N1 := hid ow1.nl
  have HAD := hid (show ∀ a, a1 = some a → wa.heap.size ≤ a.block ∧ a.block < w1.heap.size from fun a e => by
    have h := ow1.own
    have h2 := ow1.new
    rw [e] at h
    refine ⟨?_, own_block h⟩
    exact h2 a.block (by rw [e]; rfl))
  have T1 := hid (TA.out.trans ow1.touch (fun _ _ e => e))
  have B2b := hid ((ow1.touch.block q2 (lt_of_block B2.out) id).trans B2.out)
  have B5b := hid ((ow1.touch.block q5 (lt_of_block B5.out) id).trans B5.out)
  have HQ5 := hid (lt_of_block B5.out)
  have HSW := hid ow1.touch.size
  clear ow1 K B2 B5 TA
  go_wp2_with (first | refine wpList_load_row (P := Tryd.prog) rfl 46 (.tmp 5) rfl q5 rfl 46 v18 (0, 0) _ B5b.out Tryd.underlying46 rfl info46 ?_ | refine wpList_store_row (P := Tryd.prog) rfl 46 (.tmp 2) (.tmp 24) rfl q2 v18 rfl rfl 46 v18 B2b.out info46 rfl one18 ?_ | fail)
  refine bodyPost_ret (results_ctt rfl _ _ q2 46 _ (0, 0) _ rfl (setRow_heap _ q2 _ _ 46 (0, 0) B2b.out) Tryd.underlying46 rfl info46) rfl ?_
  exact ⟨rfl, T1.out.setRow (fun h => absurd h (Nat.not_lt.2 HQ.out.1)) _⟩
set_option maxRecDepth 100000 in
set_option maxHeartbeats 8000000 in
theorem dparse_list (s : ByteArray) (ls : List Bs) (w : World) (hs : s.size ≤ 1099511627776) (hu : un s.data.toList = .ok ls) (X : Except Nat (Array Value)) (hX : dpF (ls.length + 2) ls (List.replicate 18 false) v18 0 = X) :
    Calls Tryd.prog 14 #[.string s] w fun e w' => e = .returned (.tuple #[.agg (dV X), .int .i64 (dE X), .int .i64 (dA X)]) ∧ Touch (fun _ => False) w w' := by
  have hll : ls.length ≤ 1099511627776 := by
    have := ok_len s.data.toList
    rw [hu, len_size] at this
    have e : okL (.ok ls) = ls := rfl
    rw [e] at this
    omega
  have HTL := hid (show ∀ t ∈ ls, t.length ≤ 1099511627776 from fun t ht => by
    have := (un_ok _ _ _ _ hu).2 t ht
    omega)
  have HX := hid hX
  have TA := hid (((Touch.refl (fun _ => False) w).alloc (.cells v18 46)).alloc (.cells v18 46))
  have B2 := hid (show ((w.alloc (.cells v18 46)).alloc (.cells v18 46)).heap[w.heap.size]? = some (.cells v18 46 (0, 0)) from by
    rw [Below.heap_alloc _ _ _ (by show _ < (w.heap.push _).size; simp)]
    show (w.heap.push _)[_]? = _
    simp)
  have B5 := hid (show ((w.alloc (.cells v18 46)).alloc (.cells v18 46)).heap[w.heap.size + 1]? = some (.cells v18 46 (0, 0)) from by
    have := blk_new (w := w.alloc (.cells v18 46)) v18 46
    rw [show (w.alloc (.cells v18 46)).heap.size = w.heap.size + 1 from by show (w.heap.push _).size = _; simp] at this
    exact this)
  have K := hid (runpack_any s ((w.alloc (.cells v18 46)).alloc (.cells v18 46)) hs)
  rw [hu] at K
  unfold faE faA okL at K
  dsimp only at K
  clear hu hX
  go_enter Tryd.func14, Tryd.ntmps14
  go_wp2_with fail
  change Calls _ _ _ ((w.alloc (.cells v18 46)).alloc (.cells v18 46)) _
  generalize (w.alloc (.cells v18 46)).alloc (.cells v18 46) = wa at *
  obtain ⟨q2, hq2⟩ : ∃ q2, q2 = w.heap.size := ⟨_, rfl⟩
  obtain ⟨q5, hq5⟩ : ∃ q5, q5 = w.heap.size + 1 := ⟨_, rfl⟩
  rw [← hq5] at B5 ⊢
  rw [← hq2] at B2 ⊢
  have HQ := hid (show w.heap.size ≤ q2 ∧ q2 < q5 from ⟨by omega, by omega⟩)
  clear hq2 hq5
  refine K.out.mono ?_
  rintro e w1 ⟨v1, rfl, ow1⟩
  obtain ⟨a1, c1, hv1⟩ := own_shape ow1.own
  subst hv1
  have N1 := hid ow1.nl
  have HAD := hid (show ∀ a, a1 = some a → wa.heap.size ≤ a.block ∧ a.block < w1.heap.size from fun a e => by
    have h := ow1.own
    have h2 := ow1.new
    rw [e] at h
    refine ⟨?_, own_block h⟩
    exact h2 a.block (by rw [e]; rfl))
  have T1 := hid (TA.out.trans ow1.touch (fun _ _ e => e))
  have B2b := hid ((ow1.touch.block q2 (lt_of_block B2.out) id).trans B2.out)
  have B5b := hid ((ow1.touch.block q5 (lt_of_block B5.out) id).trans B5.out)
  have HQ5 := hid (lt_of_block B5.out)
  have HSW := hid ow1.touch.size
  clear ow1 K B2 B5 TA
  go_wp2_with fail
  refine (keysD_any w1).mono ?_
  rintro e w2 ⟨rfl, rfl⟩
  have NK2 := hid (nl_new w1 words)
  have TK := hid ((Touch.refl (fun _ => False) w1).alloc (.cells (words.map sv).toArray 9))
  have HS2 := hid (show w1.heap.size < (w1.alloc (.cells (words.map sv).toArray 9)).heap.size by show _ < (w1.heap.push _).size; simp)
  generalize w1.alloc (.cells (words.map sv).toArray 9) = w2 at *
  generalize hqk : w1.heap.size = qk at *
  go_wp2_with fail
  have B10 := hid (blk_new (w := w2) (#[.bool false, .bool false, .bool false, .bool false, .bool false, .bool false, .bool false, .bool false, .bool false, .bool false, .bool false, .bool false, .bool false, .bool false, .bool false, .bool false, .bool false, .bool false]) 70)
  have T10 := hid ((Touch.refl (fun _ => False) w2).alloc (.cells (#[.bool false, .bool false, .bool false, .bool false, .bool false, .bool false, .bool false, .bool false, .bool false, .bool false, .bool false, .bool false, .bool false, .bool false, .bool false, .bool false, .bool false, .bool false]) 70))
  generalize w2.alloc (.cells (#[.bool false, .bool false, .bool false, .bool false, .bool false, .bool false, .bool false, .bool false, .bool false, .bool false, .bool false, .bool false, .bool false, .bool false, .bool false, .bool false, .bool false, .bool false]) 70) = w4 at *
  generalize hq10 : w2.heap.size = q10 at *
  have HQT := hid (show q5 < qk ∧ qk < q10 from ⟨by have h1 := HQ5.out; have h2 := HSW.out; omega, HS2.out⟩)
  have B10 := hid (show w4.heap[q10]? = some (.cells ((List.replicate 18 false).map Value.bool).toArray 70 (0, 0)) from B10.out)
  have TK4 := hid (TK.out.trans T10.out (fun _ _ e => e))
  have NL4 := hid (N1.out.new TK4.out)
  have NK4 := hid (NK2.out.new T10.out)
  have B24 := hid ((TK4.out.block q2 (lt_of_block B2b.out) id).trans B2b.out)
  have B54 := hid ((TK4.out.block q5 (lt_of_block B5b.out) id).trans B5b.out)
  have T4 := hid (T1.out.trans TK4.out (fun _ _ e => e))
  clear hqk hq10 TK4 TK T10 NK2 N1 B2b B5b T1 HS2 HSW
  go_loopg [11] (ls.length + 2) (fun gk v11 wr => ∃ (p : Nat) (ms : List Bool) (vs : Array Value), v11 = .int .i64 (p : Nat) ∧ p ≤ ls.length + 1 ∧ ls.length + 2 ≤ gk + p ∧ Hid (dpF gk ls ms vs p = X) ∧ Hid (ms.length = 18) ∧ Hid (vs.size = 18 ∧ ∀ v ∈ vs.toList, v.oneCell' = true) ∧ Hid (wr.heap[q5]? = some (.cells vs 46 (0, 0))) ∧ Hid (wr.heap[q10]? = some (.cells (ms.map Value.bool).toArray 70 (0, 0))) ∧ Touch (fun k => k = q5 ∨ k = q10) w4 wr)
  case atStart => exact ⟨0, List.replicate 18 false, v18, rfl, by omega, by omega, HX, hid rfl, hid ⟨rfl, v18_one⟩, B54, B10, Touch.refl _ _⟩
  case round =>
    clear HX B54 B10
    obtain ⟨p, ms, vs, rfl, hp1, hp2, HF, HML, HVS, V5, M5, htw⟩ := hrel
    have TW := hid htw
    clear htw
    obtain ⟨G, rfl⟩ : ∃ G, gk = G + 1 := ⟨gk - 1, by omega⟩
    rw [dpF] at HF
    by_cases hlt : p < ls.length
    · have hltI : (p : Int) < (ls.length : Int) := by omega
      have KN := hid (fun (W : World) (S : Nat → Prop) (t : Touch S w4 W) (hS : ∀ k, S k → k = q5 ∨ k = q10) => NL4.out.kept t (fun b hb _ hs => by
        cases ha : a1 with
        | none => rw [ha] at hb; simp [Value.ownBlock] at hb
        | some ad =>
          rw [ha] at hb
          simp [Value.ownBlock] at hb
          have h1 := HAD.out ad ha
          have h2 := HQ5.out
          have h3 := HQT.out
          rcases hS b hs with e | e <;> omega))
      have KK := hid (fun (W : World) (S : Nat → Prop) (t : Touch S w4 W) (hS : ∀ k, S k → k = q5 ∨ k = q10) => NK4.out.kept t (fun b hb _ hs => by
          simp [Value.ownBlock] at hb
          have h3 := HQT.out
          rcases hS b hs with e | e <;> omega))
      obtain ⟨bb, oo, hAe, hcx⟩ := nl_at (KN.out _ _ TW.out (fun _ h => h)) p hlt
      subst hAe
      obtain ⟨XB, hXB, _, hXd⟩ := name_ba ls[p]
      rw [hXB] at hcx
      have hpx : ls[p]? = some ls[p] := List.getElem?_eq_getElem hlt
      rw [hpx] at HF
      dsimp only at HF
      rw [← hXd] at HF
      have CX := hid hcx
      clear hcx hXB hXd hpx
      obtain ⟨x, hx⟩ : ∃ x, x = XB.data.toList := ⟨_, rfl⟩
      rw [← hx] at HF
      have HXB := hid hx
      clear hx
      obtain ⟨wo, hwo⟩ : ∃ wo, wo = wr := ⟨_, rfl⟩
      subst hwo
      go_wp2_with fail
      go_loopg [12, 13] 18 (fun gk v12 v13 wq => ∃ j : Nat, j + gk = 18 ∧ v13 = .int .i64 (j : Nat) ∧ v12 = .int .i64 (kI x j) ∧ Touch (fun _ => False) wo wq)
      case atStart => exact ⟨0, by omega, rfl, rfl, Touch.refl _ _⟩
      case round =>
        obtain ⟨j, hjg, rfl, rfl, tq⟩ := hrel
        have TQ := hid tq
        clear tq
        by_cases hj : j < 18
        · have hjI : (j : Int) < 18 := by omega
          obtain ⟨g, rfl⟩ : ∃ g, gk = g + 1 := ⟨gk - 1, by omega⟩
          have r1 := key_cell (KK.out _ _ (TW.out.trans TQ.out (fun _ _ e => e.elim)) (fun _ h => h)) j hj
          have r2 : wr.cell? ⟨bb, oo + p, none⟩ = some (.string XB) := (TQ.out.cell (p := ⟨bb, oo + p, none⟩) (Lib.lt_of_cell CX.out) id).trans CX.out
          obtain ⟨T, hT, _, hTd⟩ := name_ba (wordB j)
          rw [hT] at r1
          have HB := hid (show (T.toList == XB.toList) = decide (wordB j = x) by
            rw [toList_data, toList_data, hTd, HXB.out, Bool.eq_iff_iff]
            simp)
          have HKI := hid (show kI x (j + 1) = if wordB j = x then ((j : Nat) : Int) else kI x j from rfl)
          clear hT hTd
          obtain ⟨z, hz⟩ : ∃ z, z = kI x j := ⟨_, rfl⟩
          rw [← hz] at HKI ⊢
          clear hz
          by_cases hw : wordB j = x
          · rw [if_pos hw] at HKI
            have hB : (T.toList == XB.toList) = true := by rw [HB.out]; exact decide_eq_true hw
            clear hw HB
            go_wp2_with fail
            go_quiet (fail)
            go_wp2
            go_roundg g
            case measure => omega
            case rel => exact ⟨j + 1, by omega, by go_num, by rw [HKI.out], TQ.out.drewN _⟩
          · rw [if_neg hw] at HKI
            have hB : (T.toList == XB.toList) = false := by rw [HB.out]; exact decide_eq_false hw
            clear hw HB
            go_wp2_with fail
            go_quiet (fail)
            go_wp2
            go_roundg g
            case measure => omega
            case rel => exact ⟨j + 1, by omega, by go_num, by rw [HKI.out], TQ.out.drewN _⟩
        · have hj18 : j = 18 := by omega
          subst hj18
          clear hjg hj
          have V5q := hid ((TQ.out.block q5 (lt_of_block V5.out) id).trans V5.out)
          have M5q := hid ((TQ.out.block q10 (lt_of_block M5.out) id).trans M5.out)
          have TWQ := hid (TW.out.trans TQ.out (fun _ _ e => e.elim))
          clear V5 M5 TW TQ CX
          rcases kI_or x 18 with ⟨k1, _⟩ | ⟨k, k1, k2, _⟩
          · rw [if_pos (show kI x 18 < 0 by omega)] at HF
            have HE := hid (show X = .error p from HF.out.symm)
            rw [k1]
            clear k1 HF
            have B2e := hid ((TWQ.out.block q2 (lt_of_block B24.out) (fun e => by rcases e with e | e <;> (have h1 := HQ.out; have h2 := HQT.out; omega))).trans B24.out)
            have TWE := hid (T4.out.trans TWQ.out (fun i hi e => by rcases e with e | e <;> (have h1 := HQ.out; have h2 := HQT.out; omega)))
            go_wp2_with (first | refine wpList_store_row (P := Tryd.prog) rfl 46 (.tmp 2) (.tmp 62) rfl q2 v18 rfl rfl 46 v18 B2e.out info46 rfl one18 ?_ | fail)
            refine bodyPost_ret (results_ctt rfl _ _ q2 46 _ (0, 0) _ rfl (setRow_heap _ q2 _ _ 46 (0, 0) B2e.out) Tryd.underlying46 rfl info46) rfl ?_
            exact ⟨by rw [HE.out]; rfl, TWE.out.setRow (fun h => absurd h (Nat.not_lt.2 HQ.out.1)) _⟩
          · rw [if_neg (show ¬ kI x 18 < 0 by omega), show (kI x 18).toNat = k by omega] at HF
            rw [k2]
            clear k2
            have hk0 : ¬ ((k : Int) < 0) := by omega
            have hkI : (k : Int) < 18 := by omega
            have mk : wr.cell? ⟨q10, k, none⟩ = some (.bool (ms.getD k false)) := by
              have h1 := M5q.out
              have h2 := HML.out
              have h3 : k < ms.length := by omega
              simp [World.cell?, h1, h3, List.getD_eq_getElem?_getD]
            obtain ⟨m, hm⟩ : ∃ m, m = ms.getD k false := ⟨_, rfl⟩
            rw [← hm] at mk HF
            clear hm
            cases m with
            | true =>
              rw [if_pos rfl] at HF
              have HE := hid (show X = .error p from HF.out.symm)
              clear HF
              have B2e := hid ((TWQ.out.block q2 (lt_of_block B24.out) (fun e => by rcases e with e | e <;> (have h1 := HQ.out; have h2 := HQT.out; omega))).trans B24.out)
              have TWE := hid (T4.out.trans TWQ.out (fun i hi e => by rcases e with e | e <;> (have h1 := HQ.out; have h2 := HQT.out; omega)))
              go_wp2_with (first | refine wpList_store_row (P := Tryd.prog) rfl 46 (.tmp 2) (.tmp 62) rfl q2 v18 rfl rfl 46 v18 B2e.out info46 rfl one18 ?_ | fail)
              refine bodyPost_ret (results_ctt rfl _ _ q2 46 _ (0, 0) _ rfl (setRow_heap _ q2 _ _ 46 (0, 0) B2e.out) Tryd.underlying46 rfl info46) rfl ?_
              exact ⟨by rw [HE.out]; rfl, TWE.out.setRow (fun h => absurd h (Nat.not_lt.2 HQ.out.1)) _⟩
            | false =>
              rw [if_neg (by decide)] at HF
              obtain ⟨p1, hp1e⟩ : ∃ p1, p1 = p + 1 := ⟨_, rfl⟩
              rw [← hp1e] at HF
              have hp1I : (p : Int) + 1 = (p1 : Int) := by omega
              have hp1b : p1 ≤ ls.length := by omega
              by_cases hpl : p1 < ls.length
              · have hpB : ((p1 : Int) == (ls.length : Int)) = false := by rw [beq_eq_false_iff_ne]; omega
                have hplI : (p1 : Int) < (ls.length : Int) := by omega
                obtain ⟨p2, hp2e⟩ : ∃ p2, p2 = p + 2 := ⟨_, rfl⟩
                rw [← hp2e] at HF
                have hp2I : (p : Int) + 2 = (p2 : Int) := by omega
                have HP2 := hid hp2e
                clear hp2e hp1e
                rw [List.getElem?_eq_getElem hpl] at HF
                dsimp only at HF
                have fk := free_of (i := k) M5q.out
                go_upto_region 19 with fail
                have M6 := hid (show (wr.setCell ⟨q10, k, none⟩ (.bool true)).heap[q10]? = some (.cells ((ms.set k true).map Value.bool).toArray 70 (0, 0)) from by
                  rw [block_set M5q.out k _, bools_set])
                have T6 := hid (TWQ.out.setCell (p := ⟨q10, k, none⟩) (fun _ => .inr rfl) (.bool true))
                have V6 := hid (show (wr.setCell ⟨q10, k, none⟩ (.bool true)).heap[q5]? = some (.cells vs 46 (0, 0)) from by
                  rw [Below.heap_setCell _ _ _ _ (show q5 ≠ q10 by have := HQT.out; omega)]
                  exact V5q.out)
                generalize wr.setCell ⟨q10, k, none⟩ (.bool true) = w6 at *
                obtain ⟨bb', oo', hAe, hcy⟩ := nl_at (KN.out _ _ T6.out (fun _ h => h)) p1 hpl
                simp only [Option.some.injEq, Addr.mk.injEq, and_true] at hAe
                obtain ⟨rfl, rfl⟩ := hAe
                have HLY := hid (HTL.out _ (List.getElem_mem hpl))
                obtain ⟨YB, hYB, hYs, hYd⟩ := name_ba ls[p1]
                rw [hYB] at hcy
                rw [← hYd] at HF
                rw [← hYs] at HLY
                clear mk fk V5q M5q TWQ hYB hYs hYd
                have hkv : k < vs.size := by rw [HVS.out.1]; exact k1
                obtain ⟨u5, c5⟩ : ∃ u, w6.cell? ⟨q5, k, none⟩ = some u := ⟨_, cell_of V6.out k hkv⟩
                have f5 := free_of (i := k) V6.out
                by_cases hk5 : k < 5
                · have hk5I : (k : Int) < 5 := by omega
                  have HOK := hid (show okR k YB.data.toList = (rn YB.data.toList).isSome by unfold okR; rw [if_pos hk5])
                  have HST := hid (show stR k YB.data.toList = .int .i64 ((rn YB.data.toList).getD 0) by unfold stR; rw [if_pos hk5])
                  have K := hid (number_any YB (by have := HLY.out; omega) w6)
                  obtain ⟨V, B, hV, hV1, hV2⟩ : ∃ V B, rnV YB.data.toList = .tuple #[.int .i64 V, .bool B] ∧ (rn YB.data.toList).isSome = B ∧ (rn YB.data.toList).getD 0 = V := by
                    unfold rnV
                    cases rn YB.data.toList with
                    | none => exact ⟨0, false, rfl, rfl, rfl⟩
                    | some n => exact ⟨n, true, rfl, rfl, rfl⟩
                  rw [hV1] at HOK
                  rw [hV2] at HST
                  rw [hV] at K
                  clear hV hV1 hV2
                  cases B with
                  | true =>
                    have OV := hid (show ((.int .i64 V) : Value).oneCell' = true from rfl)
                    have V7 := hid (block_set V6.out k (.int .i64 V))
                    have T7 := hid (T6.out.setCell (p := ⟨q5, k, none⟩) (fun _ => .inl rfl) (.int .i64 V))
                    have M7 := hid (show (w6.setCell ⟨q5, k, none⟩ (.int .i64 V)).heap[q10]? = some (.cells ((ms.set k true).map Value.bool).toArray 70 (0, 0)) from by
                      rw [Below.heap_setCell _ _ _ _ (show q10 ≠ q5 by have := HQT.out; omega)]
                      exact M6.out)
                    rw [HST.out, HOK.out, if_pos rfl] at HF
                    go_wp2_with fail
                    refine K.out.mono ?_
                    rintro e wn ⟨rfl, rfl⟩
                    go_wp2
                    go_roundg G
                    case measure => omega
                    case rel =>
                      refine ⟨p2, ms.set k true, vs.set! k (.int .i64 V), rfl, by have := HP2.out; omega, by have := HP2.out; omega, HF, hid (by rw [List.length_set]; exact HML.out), hid ⟨by simp [HVS.out.1], fun u hu => ?_⟩, hid V7.out, hid M7.out, T7.out⟩
                      rw [Array.set!_eq_setIfInBounds, Array.toList_setIfInBounds] at hu
                      rcases List.mem_or_eq_of_mem_set hu with hu | rfl
                      · exact HVS.out.2 u hu
                      · exact OV.out
                  | false =>
                    have OV := hid (show ((.int .i64 V) : Value).oneCell' = true from rfl)
                    have V7 := hid (block_set V6.out k (.int .i64 V))
                    have T7 := hid (T6.out.setCell (p := ⟨q5, k, none⟩) (fun _ => .inl rfl) (.int .i64 V))
                    have M7 := hid (show (w6.setCell ⟨q5, k, none⟩ (.int .i64 V)).heap[q10]? = some (.cells ((ms.set k true).map Value.bool).toArray 70 (0, 0)) from by
                      rw [Below.heap_setCell _ _ _ _ (show q10 ≠ q5 by have := HQT.out; omega)]
                      exact M6.out)
                    rw [HOK.out, if_neg (by decide)] at HF
                    have HE := hid (show X = .error p from HF.out.symm)
                    go_wp2_with fail
                    refine K.out.mono ?_
                    rintro e wn ⟨rfl, rfl⟩
                    have B2e := hid ((T7.out.block q2 (lt_of_block B24.out) (fun e => by rcases e with e | e <;> (have h1 := HQ.out; have h2 := HQT.out; omega))).trans B24.out)
                    have TWE := hid (T4.out.trans T7.out (fun i hi e => by rcases e with e | e <;> (have h1 := HQ.out; have h2 := HQT.out; omega)))
                    go_wp2_with (first | refine wpList_store_row (P := Tryd.prog) rfl 46 (.tmp 2) (.tmp 102) rfl q2 v18 rfl rfl 46 v18 B2e.out info46 rfl one18 ?_ | fail)
                    refine bodyPost_ret (results_ctt rfl _ _ q2 46 _ (0, 0) _ rfl (setRow_heap _ q2 _ _ 46 (0, 0) B2e.out) Tryd.underlying46 rfl info46) rfl ?_
                    exact ⟨by rw [HE.out]; rfl, TWE.out.setRow (fun h => absurd h (Nat.not_lt.2 HQ.out.1)) _⟩
                · have hk5I : ¬ ((k : Int) < 5) := by omega
                  by_cases hk15 : k < 15
                  · have hk15I : (k : Int) < 15 := by omega
                    obtain ⟨k5, hk5e⟩ : ∃ k5, k = 5 + k5 := ⟨k - 5, by omega⟩
                    have hk5J : (k : Int) - 5 = (k5 : Int) := by omega
                    have hk5L : (k5 : Int) < 10 := by omega
                    have HKE := hid hk5e
                    have HOK := hid (show okR k YB.data.toList = (decide (YB.data.toList = yesB) || decide (YB.data.toList = noB)) by unfold okR; rw [if_neg hk5, if_pos hk15])
                    have HST := hid (show stR k YB.data.toList = .bool (decide (YB.data.toList = yesB)) by unfold stR; rw [if_neg hk5, if_pos hk15])
                    have hY := hid (show (YB.toList == [121, 101, 115]) = decide (YB.data.toList = yesB) by rw [toList_data, beq_dec]; rfl)
                    have hNo := hid (show (YB.toList == [110, 111]) = decide (YB.data.toList = noB) by rw [toList_data, beq_dec]; rfl)
                    rw [HKE.out] at c5 f5
                    have HQS := hid (show ∀ u, w6.setCell ⟨q5, 5 + k5, none⟩ u = w6.setCell ⟨q5, k, none⟩ u from fun u => by rw [HKE.out])
                    clear hk5e
                    cases h1 : decide (YB.data.toList = yesB) with
                    | true =>
                      rw [h1] at hY HST HOK
                      rw [Bool.true_or] at HOK
                      have y1 := hY.out
                      clear hY hNo h1
                      have OV := hid (show ((.bool true) : Value).oneCell' = true from rfl)
                      have V7 := hid (block_set V6.out k (.bool true))
                      have T7 := hid (T6.out.setCell (p := ⟨q5, k, none⟩) (fun _ => .inl rfl) (.bool true))
                      have M7 := hid (show (w6.setCell ⟨q5, k, none⟩ (.bool true)).heap[q10]? = some (.cells ((ms.set k true).map Value.bool).toArray 70 (0, 0)) from by
                        rw [Below.heap_setCell _ _ _ _ (show q10 ≠ q5 by have := HQT.out; omega)]
                        exact M6.out)
                      rw [HST.out, HOK.out, if_pos rfl] at HF
                      have E7 := HQS.out (.bool true)
                      go_upto_region 27 with fail
                      
                      go_wp2
                      go_roundg G
                      case measure => omega
                      case rel =>
                        refine ⟨p2, ms.set k true, vs.set! k (.bool true), rfl, by have := HP2.out; omega, by have := HP2.out; omega, HF, hid (by rw [List.length_set]; exact HML.out), hid ⟨by simp [HVS.out.1], fun u hu => ?_⟩, hid V7.out, hid M7.out, T7.out⟩
                        rw [Array.set!_eq_setIfInBounds, Array.toList_setIfInBounds] at hu
                        rcases List.mem_or_eq_of_mem_set hu with hu | rfl
                        · exact HVS.out.2 u hu
                        · exact OV.out
                    | false =>
                      rw [h1] at hY HST HOK
                      rw [Bool.false_or] at HOK
                      have y1 := hY.out
                      cases h2 : decide (YB.data.toList = noB) with
                      | true =>
                        rw [h2] at hNo HOK
                        have y2 := hNo.out
                        clear hY hNo h1 h2
                        have OV := hid (show ((.bool false) : Value).oneCell' = true from rfl)
                        have V7 := hid (block_set V6.out k (.bool false))
                        have T7 := hid (T6.out.setCell (p := ⟨q5, k, none⟩) (fun _ => .inl rfl) (.bool false))
                        have M7 := hid (show (w6.setCell ⟨q5, k, none⟩ (.bool false)).heap[q10]? = some (.cells ((ms.set k true).map Value.bool).toArray 70 (0, 0)) from by
                          rw [Below.heap_setCell _ _ _ _ (show q10 ≠ q5 by have := HQT.out; omega)]
                          exact M6.out)
                        rw [HST.out, HOK.out, if_pos rfl] at HF
                        have E7 := HQS.out (.bool false)
                        go_upto_region 27 with fail
                        
                        go_wp2
                        go_roundg G
                        case measure => omega
                        case rel =>
                          refine ⟨p2, ms.set k true, vs.set! k (.bool false), rfl, by have := HP2.out; omega, by have := HP2.out; omega, HF, hid (by rw [List.length_set]; exact HML.out), hid ⟨by simp [HVS.out.1], fun u hu => ?_⟩, hid V7.out, hid M7.out, T7.out⟩
                          rw [Array.set!_eq_setIfInBounds, Array.toList_setIfInBounds] at hu
                          rcases List.mem_or_eq_of_mem_set hu with hu | rfl
                          · exact HVS.out.2 u hu
                          · exact OV.out
                      | false =>
                        rw [h2] at hNo HOK
                        have y2 := hNo.out
                        clear hY hNo h1 h2
                        have OV := hid (show ((.bool false) : Value).oneCell' = true from rfl)
                        have V7 := hid (block_set V6.out k (.bool false))
                        have T7 := hid (T6.out.setCell (p := ⟨q5, k, none⟩) (fun _ => .inl rfl) (.bool false))
                        have M7 := hid (show (w6.setCell ⟨q5, k, none⟩ (.bool false)).heap[q10]? = some (.cells ((ms.set k true).map Value.bool).toArray 70 (0, 0)) from by
                          rw [Below.heap_setCell _ _ _ _ (show q10 ≠ q5 by have := HQT.out; omega)]
                          exact M6.out)
                        rw [HOK.out, if_neg (by decide)] at HF
                        have HE := hid (show X = .error p from HF.out.symm)
                        have E7 := HQS.out (.bool false)
                        go_upto_region 27 with fail
                        
                        have B2e := hid ((T7.out.block q2 (lt_of_block B24.out) (fun e => by rcases e with e | e <;> (have h1 := HQ.out; have h2 := HQT.out; omega))).trans B24.out)
                        have TWE := hid (T4.out.trans T7.out (fun i hi e => by rcases e with e | e <;> (have h1 := HQ.out; have h2 := HQT.out; omega)))
                        go_wp2_with (first | refine wpList_store_row (P := Tryd.prog) rfl 46 (.tmp 2) (.tmp 102) rfl q2 v18 rfl rfl 46 v18 B2e.out info46 rfl one18 ?_ | fail)
                        refine bodyPost_ret (results_ctt rfl _ _ q2 46 _ (0, 0) _ rfl (setRow_heap _ q2 _ _ 46 (0, 0) B2e.out) Tryd.underlying46 rfl info46) rfl ?_
                        exact ⟨by rw [HE.out]; rfl, TWE.out.setRow (fun h => absurd h (Nat.not_lt.2 HQ.out.1)) _⟩
                  · have hk15I : ¬ ((k : Int) < 15) := by omega
                    obtain ⟨k5, hk5e⟩ : ∃ k5, k = 15 + k5 := ⟨k - 15, by omega⟩
                    have hk5J : (k : Int) - 15 = (k5 : Int) := by omega
                    have hk5L : (k5 : Int) < 3 := by omega
                    have HKE := hid hk5e
                    have HOK := hid (show okR k YB.data.toList = true by unfold okR; rw [if_neg hk5, if_neg hk15])
                    have HST := hid (show stR k YB.data.toList = .string YB by unfold stR; rw [if_neg hk5, if_neg hk15]; rfl)
                    rw [HKE.out] at c5 f5
                    have HQS := hid (show ∀ u, w6.setCell ⟨q5, 15 + k5, none⟩ u = w6.setCell ⟨q5, k, none⟩ u from fun u => by rw [HKE.out])
                    clear hk5e
                    have OV := hid (show ((.string YB) : Value).oneCell' = true from rfl)
                    have V7 := hid (block_set V6.out k (.string YB))
                    have T7 := hid (T6.out.setCell (p := ⟨q5, k, none⟩) (fun _ => .inl rfl) (.string YB))
                    have M7 := hid (show (w6.setCell ⟨q5, k, none⟩ (.string YB)).heap[q10]? = some (.cells ((ms.set k true).map Value.bool).toArray 70 (0, 0)) from by
                      rw [Below.heap_setCell _ _ _ _ (show q10 ≠ q5 by have := HQT.out; omega)]
                      exact M6.out)
                    rw [HST.out, HOK.out, if_pos rfl] at HF
                    have E7 := HQS.out (.string YB)
                    go_upto_region 27 with fail
                    
                    go_wp2
                    go_roundg G
                    case measure => omega
                    case rel =>
                      refine ⟨p2, ms.set k true, vs.set! k (.string YB), rfl, by have := HP2.out; omega, by have := HP2.out; omega, HF, hid (by rw [List.length_set]; exact HML.out), hid ⟨by simp [HVS.out.1], fun u hu => ?_⟩, hid V7.out, hid M7.out, T7.out⟩
                      rw [Array.set!_eq_setIfInBounds, Array.toList_setIfInBounds] at hu
                      rcases List.mem_or_eq_of_mem_set hu with hu | rfl
                      · exact HVS.out.2 u hu
                      · exact OV.out
              · have hpB : ((p1 : Int) == (ls.length : Int)) = true := by rw [beq_iff_eq]; omega
                clear hp1e
                rw [List.getElem?_eq_none (by omega)] at HF
                dsimp only at HF
                have HE := hid (show X = .error p from HF.out.symm)
                clear HF
                have B2e := hid ((TWQ.out.block q2 (lt_of_block B24.out) (fun e => by rcases e with e | e <;> (have h1 := HQ.out; have h2 := HQT.out; omega))).trans B24.out)
                have TWE := hid (T4.out.trans TWQ.out (fun i hi e => by rcases e with e | e <;> (have h1 := HQ.out; have h2 := HQT.out; omega)))
                go_wp2_with (first | refine wpList_store_row (P := Tryd.prog) rfl 46 (.tmp 2) (.tmp 62) rfl q2 v18 rfl rfl 46 v18 B2e.out info46 rfl one18 ?_ | fail)
                refine bodyPost_ret (results_ctt rfl _ _ q2 46 _ (0, 0) _ rfl (setRow_heap _ q2 _ _ 46 (0, 0) B2e.out) Tryd.underlying46 rfl info46) rfl ?_
                exact ⟨by rw [HE.out]; rfl, TWE.out.setRow (fun h => absurd h (Nat.not_lt.2 HQ.out.1)) _⟩
    · have hltI : ¬ (p : Int) < (ls.length : Int) := by omega
      have hpn : ls[p]? = none := List.getElem?_eq_none (by omega)
      rw [hpn] at HF
      have HE := hid (show X = .ok vs from HF.out.symm)
      have B2e := hid ((TW.out.block q2 (lt_of_block B24.out) (fun e => by rcases e with e | e <;> (have h1 := HQ.out; have h2 := HQT.out; omega))).trans B24.out)
      have TWE := hid (T4.out.trans TW.out (fun i hi e => by rcases e with e | e <;> (have h1 := HQ.out; have h2 := HQT.out; omega)))
      have hi46 : (Tryd.prog.info? 46).map (·.size) = some vs.size := by rw [HVS.out.1]; exact info46
      have hv46 : v18.size = vs.size := by rw [HVS.out.1]; rfl
      have ho46 : vs.all (·.oneCell') = true := Array.all_eq_true_iff_forall_mem.2 (fun v hv => HVS.out.2 v (by simpa using hv))
      clear HF hpn
      go_wp2_with (first | refine wpList_load_row (P := Tryd.prog) rfl 46 (.tmp 5) rfl q5 rfl 46 vs (0, 0) _ V5.out Tryd.underlying46 rfl hi46 ?_ | refine wpList_store_row (P := Tryd.prog) rfl 46 (.tmp 2) (.tmp 104) rfl q2 vs rfl rfl 46 v18 B2e.out hi46 hv46 ho46 ?_ | fail)
      refine bodyPost_ret (results_ctt rfl _ _ q2 46 _ (0, 0) _ rfl (setRow_heap _ q2 _ _ 46 (0, 0) B2e.out) Tryd.underlying46 rfl hi46) rfl ?_
      exact ⟨by rw [HE.out]; rfl, TWE.out.setRow (fun h => absurd h (Nat.not_lt.2 HQ.out.1)) _⟩
end Go.Proofs.YtmeekjfnmdbnpaaDoor
