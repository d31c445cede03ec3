/- Parse of a text that is unpacked; conditions: it fits into memory, the library's variables lie there. -/
import Derived.Test.YtmeekjfnmdbnpaaDoorPs
namespace Go.Proofs.YtmeekjfnmdbnpaaDoor
open Go.RowKit
open Go.Lib

theorem own_block {w : World} {base e sz n cap : Nat} {ad : Addr} {xs : List Value} (h : w.ownsRow base e sz (.slice (some ad) n cap) n xs) : ad.block < w.heap.size := by
  rcases h.2 with ⟨hv, _⟩ | ⟨g, c, cur, hv, hg, hh, _⟩
  · cases hv
  · simp only [Value.slice.injEq, Option.some.injEq] at hv
    obtain ⟨rfl, _, _⟩ := hv
    exact lt_of_block hh
theorem rd_size : ∀ (f : Nat) (ls : List Bs) (left : List Nat) (c0 : Array Value) (p : Nat) (cs : Array Value), rdF f ls left c0 p = .ok cs → cs.size = c0.size
  | 0, ls, left, c0, p, cs, h => by cases h
  | f + 1, ls, left, c0, p, cs, h => by
    rw [rdF] at h
    split at h
    · injection h with h
      rw [← h]
    · split at h
      · cases h
      · split at h
        · cases h
        · split at h
          · have := rd_size f ls _ _ _ cs h
            simpa using this
          · cases h
theorem st_one (k : Nat) (x : Bs) : (stR k x).oneCell' = true := by
  unfold stR
  split
  · rfl
  · split <;> rfl
theorem rd_one : ∀ (f : Nat) (ls : List Bs) (left : List Nat) (c0 : Array Value) (p : Nat) (cs : Array Value), rdF f ls left c0 p = .ok cs → (∀ v ∈ c0.toList, v.oneCell' = true) → ∀ v ∈ cs.toList, v.oneCell' = true
  | 0, ls, left, c0, p, cs, h, _ => by cases h
  | f + 1, ls, left, c0, p, cs, h, h0 => by
    rw [rdF] at h
    split at h
    · injection h with h
      rw [← h]
      exact h0
    · split at h
      · cases h
      · split at h
        · cases h
        · split at h
          · refine rd_one f ls _ _ _ cs h ?_
            intro v hv
            rw [Array.set!_eq_setIfInBounds, Array.toList_setIfInBounds] at hv
            rcases List.mem_or_eq_of_mem_set hv with hv | rfl
            · exact h0 v hv
            · exact st_one _ _
          · cases h
theorem z18_one : ∀ v ∈ z18.toList, v.oneCell' = true := by
  intro v hv
  simp [z18] at hv
  rcases hv with rfl | rfl | rfl | rfl <;> rfl
set_option maxRecDepth 100000 in
set_option maxHeartbeats 4000000 in
theorem parse_word (s : ByteArray) (ls : List Bs) (p : Nat) (w : World) (hs : s.size ≤ 1099511627776) (hx : Sx w) (hu : un s.data.toList = .ok ls) (hr : rdF (ls.length + 2) ls (List.range 18) z18 0 = .error p) :
    Calls Tryd.prog 13 #[.string s] w fun e w' => e = .returned (.tuple #[.agg z17, .string ⟨#[]⟩, .agg #[.int .i64 29, .int .i64 (p : Nat)]]) ∧ Touch (fun _ => False) w w' := by
  have HSZ := hid (show 3 < w.heap.size from by
    obtain ⟨ev, h1, _⟩ := hx.ran
    exact Lib.lt_of_cell h1)
  have hll : ls.length ≤ 1099511627776 := by
    have := ok_len s.data.toList
    rw [hu, len_size] at this
    have e : okL (.ok ls) = ls := rfl
    rw [e] at this
    omega
  have HTL := hid (show ∀ t ∈ ls, t.length ≤ 1099511627776 from fun t ht => by
    have := (un_ok _ _ _ _ hu).2 t ht
    omega)
  have HX := hid hx
  have TA := hid (((Touch.refl (fun _ => False) w).alloc (.cells z17 39)).alloc (.cells #[.int .i64 0, .int .i64 0] 27))
  have B2 := hid (show ((w.alloc (.cells z17 39)).alloc (.cells #[.int .i64 0, .int .i64 0] 27)).heap[w.heap.size]? = some (.cells z17 39 (0, 0)) from by
    rw [Below.heap_alloc _ _ _ (by show _ < (w.heap.push _).size; simp)]
    show (w.heap.push _)[_]? = _
    simp)
  have B4 := hid (show ((w.alloc (.cells z17 39)).alloc (.cells #[.int .i64 0, .int .i64 0] 27)).heap[w.heap.size + 1]? = some (.cells #[.int .i64 0, .int .i64 0] 27 (0, 0)) from by
    have := two_new (w := w.alloc (.cells z17 39)) (.int .i64 0) (.int .i64 0) 27
    rw [show (w.alloc (.cells z17 39)).heap.size = w.heap.size + 1 from by show (w.heap.push _).size = _; simp] at this
    exact this)
  have K := hid (unpack_any s _ hs (hx.new TA.out))
  rw [hu] at K
  unfold faE faA okL at K
  dsimp only at K
  have HRR := hid hr
  clear hx hu hr
  go_enter Tryd.func13, Tryd.ntmps13
  go_wp2_with fail
  change Calls _ _ _ ((w.alloc (.cells z17 39)).alloc (.cells #[.int .i64 0, .int .i64 0] 27)) _
  generalize (w.alloc (.cells z17 39)).alloc (.cells #[.int .i64 0, .int .i64 0] 27) = wa at *
  obtain ⟨q2, hq2⟩ : ∃ q2, q2 = w.heap.size := ⟨_, rfl⟩
  obtain ⟨q4, hq4⟩ : ∃ q4, q4 = w.heap.size + 1 := ⟨_, rfl⟩
  rw [← hq4] at B4 ⊢
  rw [← hq2] at B2 ⊢
  have HQ := hid (show w.heap.size ≤ q2 ∧ q2 < q4 from ⟨by omega, by omega⟩)
  clear hq2 hq4
  refine K.out.mono ?_
  rintro e w1 ⟨v1, rfl, ow1⟩
  obtain ⟨a1, c1, hv1⟩ := own_shape ow1.own
  subst hv1
  have N1 := hid (ow1.nl.new ((Touch.refl _ _).alloc (.cells #[.int .i64 0, .int .i64 0] 27)))
  have HAD := hid (show ∀ a, a1 = some a → a.block < w1.heap.size from fun a e => by
    have h := ow1.own
    rw [e] at h
    exact own_block h)
  have TT := hid (ow1.touch.alloc (.cells #[.int .i64 0, .int .i64 0] 27))
  have F6 := hid (two_new (w := w1) (.int .i64 0) (.int .i64 0) 27)
  have B2b := hid ((TT.out.block q2 (lt_of_block B2.out) id).trans B2.out)
  have B4b := hid ((TT.out.block q4 (lt_of_block B4.out) id).trans B4.out)
  have T2 := hid (TA.out.trans TT.out (fun _ _ e => e))
  have HQ6 := hid (show q4 < w1.heap.size from Nat.lt_of_lt_of_le (lt_of_block B4.out) ow1.touch.size)
  have HS2 := hid (show w1.heap.size < (w1.alloc (.cells #[.int .i64 0, .int .i64 0] 27)).heap.size by show _ < (w1.heap.push _).size; simp)
  clear ow1 K TT B2 B4 TA
  go_upto_region 2 with fail
  generalize w1.alloc (.cells #[.int .i64 0, .int .i64 0] 27) = w2 at *
  generalize w1.heap.size = q6 at *
  have f0 := cell_two0 F6.out
  have f1 := cell_two1 F6.out
  go_wp2_with fail
  change Calls _ _ _ (w2.alloc (.cells z18 67)) _
  have RQ := hid (show Rq (w2.alloc (.cells z18 67)) w2.heap.size z18 from ⟨by show (w2.heap.push _)[_]? = _; simp, rfl⟩)
  have T3 := hid ((Touch.refl (fun _ => False) w2).alloc (.cells z18 67))
  have KR := hid (read_any w2.heap.size z18 a1 c1 ls (w2.alloc (.cells z18 67)) (N1.out.new T3.out) (fun a e => by have h1 := HAD.out a e; have h2 := HS2.out; omega) RQ.out (HX.out.new (T2.out.trans T3.out (fun _ _ e => e))) hll HTL.out (fun k hk => by simpa using hk) (by have h1 := HSZ.out; have h2 := HQ.out; have h3 := HQ6.out; have h4 := HS2.out; omega))
  rw [HRR.out] at KR
  refine KR.out.mono ?_
  rintro e w4 ⟨rfl, _, t4⟩
  have B2c := hid ((t4.block q2 (Nat.lt_of_lt_of_le (lt_of_block B2b.out) T3.out.size) (fun e => by have e' : q2 = w2.heap.size := e; have h2 := HQ.out; have h3 := HQ6.out; have h4 := HS2.out; omega)).trans ((T3.out.block q2 (lt_of_block B2b.out) id).trans B2b.out))
  have B4c := hid ((t4.block q4 (Nat.lt_of_lt_of_le (lt_of_block B4b.out) T3.out.size) (fun e => by have e' : q4 = w2.heap.size := e; have h3 := HQ6.out; have h4 := HS2.out; omega)).trans ((T3.out.block q4 (lt_of_block B4b.out) id).trans B4b.out))
  have T5 := hid ((T2.out.trans T3.out (fun _ _ e => e)).trans t4 (fun i hi e => by have e' : i = w2.heap.size := e; have h2 := T2.out.size; omega))
  unfold rdP rdB
  dsimp only
  clear KR t4 T3 T2 RQ B2b B4b f0 f1 F6 N1 HAD
  have FF9 := hid (fin_r (qp := q2) (cs := z17) B4c.out HQ.out.2)
  have g0 := cell_two0 FF9.out
  have g1 := cell_two1 FF9.out
  have gf0 := free_two (i := 0) FF9.out
  have gf1 := free_two (i := 1) FF9.out
  go_wp2_with (first | refine wpList_store_row (P := Tryd.prog) rfl 39 (.tmp 2) (.tmp 27) rfl q2 z17 rfl rfl 39 z17 B2c.out info39 rfl one17 ?_ | fail)
  refine bodyPost_ret (results_ctc rfl _ _ q2 39 _ (0, 0) _ q4 27 _ (0, 0) _ rfl (fin_p B2c.out HQ.out.2 _ _) Tryd.underlying39 rfl (by kernel_rfl) rfl (fset FF9.out _ _) Tryd.underlying27 rfl (by kernel_rfl)) rfl ?_
  exact ⟨rfl, fin_t T5.out HQ.out.1 (by have := HQ.out; omega) _ _ _⟩
end Go.Proofs.YtmeekjfnmdbnpaaDoor
