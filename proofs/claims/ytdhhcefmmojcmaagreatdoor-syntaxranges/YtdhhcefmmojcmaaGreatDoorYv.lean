/- A parser of patterns: the whole text; conditions: the text has at most 1024 scalars. -/
import Derived.Test.YtdhhcefmmojcmaaGreatDoorM35
namespace Go.Proofs.YtdhhcefmmojcmaaGreatDoor
open Go.RowKit
open Go.Lib

theorem begin34 {w : World} {b : Nat} (hb : b < w.heap.size) :
    ((w.alloc (.cells zPat 31)).alloc (.cells #[.int .i64 0, .int .i64 0] 34)).heap[w.heap.size]? = some (.cells zPat 31 (0, 0)) ∧
    ((w.alloc (.cells zPat 31)).alloc (.cells #[.int .i64 0, .int .i64 0] 34)).heap[w.heap.size + 1]? = some (.cells #[.int .i64 0, .int .i64 0] 34 (0, 0)) ∧
    Touch (fun _ => False) w ((w.alloc (.cells zPat 31)).alloc (.cells #[.int .i64 0, .int .i64 0] 34)) ∧
    (b < w.heap.size ∧ w.heap.size ≤ w.heap.size ∧ w.heap.size < w.heap.size + 1) := by
  have e1 : (w.alloc (.cells zPat 31)).heap.size = w.heap.size + 1 := by simp
  refine ⟨?_, ?_, ((Touch.refl _ _).alloc _).alloc _, hb, Nat.le_refl _, Nat.lt_succ_self _⟩
  · have T := (Touch.refl (fun _ => False) (w.alloc (.cells zPat 31))).alloc (.cells #[.int .i64 0, .int .i64 0] 34)
    exact (T.block _ (by rw [e1]; omega) id).trans (block_new w zPat 31)
  · have := block_new (w.alloc (.cells zPat 31)) #[.int .i64 0, .int .i64 0] 34
    rw [e1] at this
    exact this
theorem Leaves.tmps {P : Program} {fn : Func} {R : Ending → World → Prop} {t t' : Array Value} (h : results fn t = results fn t') : ∀ (ds : List Deferred) (u : FrameMode) (w : World), Leaves P fn t R ds u w → Leaves P fn t' R ds u w
  | [], .returning, w, hh => by
    obtain ⟨v, h1, h2⟩ := hh
    exact ⟨v, by rw [← h]; exact h1, h2⟩
  | [], .panicking chain, w, hh => hh
  | [], .run, w, hh => hh
  | d :: ds, u, w, ⟨h0, fv, cap, f, args, h1, h2, h3⟩ => ⟨h0, fv, cap, f, args, h1, h2, h3.mono (fun e u' w' hh => by
    match e, hh with
    | .returned _, hh => exact Leaves.tmps h ds _ _ hh
    | .panicked _, hh => exact Leaves.tmps h ds _ _ hh
    | .outgrown, hh => exact hh)⟩
theorem pat_hQ (R : Ending → World → Prop) (d : Nat) (h2 : d ≠ 2) (h3 : d ≠ 3) (v : Value) (c : List PanicEntry) (a : Act) (w : World) (h : bodyPostD Tryz.prog Tryz.f27 R (.panic c) (a.put (some d) v) w) : bodyPostD Tryz.prog Tryz.f27 R (.panic c) a w := by
  refine Leaves.tmps ?_ _ _ _ h
  simp [results, Tryz.results27, Act.put, Array.getElem?_setIfInBounds, h2, h3]
/-- What pattern answers. -/
def PatP (b : Nat) (X : Px) (vn : Value) (w : World) : PR (Nd × List ByteArray) → Ending → World → Prop
  | .error (c, j), e, w' => e = .returned (.tuple #[.agg zPat, .agg #[.int .i64 (c : Nat), .int .i64 (lkR X.P j)]]) ∧ Touch (fun g => g = b ∨ vn.ownBlock = some g) w w'
  | .ok (x, ns), e, w' => ∃ c vn', e = .returned (.tuple #[.agg (Cel.arr c ++ #[vn']), .agg #[.int .i64 0, .int .i64 0]]) ∧ TN w' (fun g => w.heap.size ≤ g ∧ g < w'.heap.size) c x ∧ SL w' vn' ns ∧ (vn'.ownBlock = vn.ownBlock ∨ ∃ g, vn'.ownBlock = some g ∧ w.heap.size ≤ g) ∧ Touch (fun g => g = b ∨ vn.ownBlock = some g) w w'
set_option maxRecDepth 100000 in
set_option maxHeartbeats 4000000 in
theorem pat_bad (b : Nat) (X : Px) (f : Fl) (vn : Value) (ns : List ByteArray) (c j : Nat) (w : World) (h : PS w b X 0 f vn ns 0)
    (K : ∀ w', PS w' b X 0 f vn ns 0 → Calls Tryz.prog 45 #[.pointer (some ⟨b, 0, none⟩)] w' fun e w'' => e = thrown c (lkR X.P j) ∧ Touch (fun g => g = b ∨ vn.ownBlock = some g) w' w'') :
    Calls Tryz.prog 27 #[.pointer (some ⟨b, 0, none⟩)] w fun e w' => PatP b X vn w (.error (c, j)) e w' := by
  have hmf : ∀ (fn : Fn) (first cap : Array Value) (w : World), (Instr.makeFunc fn first cap).run Tryz.prog w = .ok (.func fn first cap) w := fun _ _ _ _ => rfl
  have B := hid (begin34 (w := w) h.lt)
  have H0 := hid (h.new B.out.2.2.1)
  have KH := hid K
  unfold thrown at KH
  clear K h
  go_enter_defers Tryz.func27, Tryz.ntmps27
  go_upto_region 2 with fail
  unfold zPat at B H0
  generalize (w.alloc (.cells #[.int .i64 0, .slice none 0 0, .bool false, .int .i64 0, .int .i64 0, .bool false, .int .i64 0, .string ⟨#[]⟩, .slice none 0 0, .slice none 0 0] 31)).alloc (.cells #[.int .i64 0, .int .i64 0] 34) = w1 at *
  obtain ⟨BA, BB, T1, L⟩ := B.out
  clear B
  replace BA := hid BA
  replace BB := hid BB
  replace T1 := hid T1
  obtain ⟨p, hp⟩ : ∃ p, p = w.heap.size := ⟨_, rfl⟩
  obtain ⟨q, hq⟩ : ∃ q, q = w.heap.size + 1 := ⟨_, rfl⟩
  have HL := hid (show b < p ∧ w.heap.size ≤ p ∧ p < q from by rw [hp, hq]; exact L)
  clear L
  rw [← hq] at BB ⊢
  rw [← hp] at BA ⊢
  clear hp hq
  have NP := hid (show ∀ g, g = b ∨ vn.ownBlock = some g → ¬ g = p ∧ ¬ g = q from fun g e => by
    rcases e with e | e
    · have := HL.out
      omega
    · exact ⟨fun s => H0.out.notN BA.out (by decide) (by rw [← s]; exact e), fun s => H0.out.notN BB.out (by decide) (by rw [← s]; exact e)⟩)
  obtain ⟨y, hy⟩ : ∃ y, y = lkR X.P j := ⟨_, rfl⟩
  rw [← hy] at KH
  have HY := hid hy
  clear hy
  go_wp2_with fail
  refine (KH.out w1 H0.out).mono ?_
  rintro e w2 ⟨rfl, tt⟩
  have P2 := hid ((tt.block p (lt_of_block BA.out) (fun e => (NP.out p e).1 rfl)).trans BA.out)
  have Q2 := hid ((tt.block q (lt_of_block BB.out) (fun e => (NP.out q e).2 rfl)).trans BB.out)
  have T2 := hid (Touch.trans (S := fun g => g = b ∨ vn.ownBlock = some g) (T1.out.mono (fun _ _ e => e.elim)) tt (fun _ _ e => e))
  clear tt KH H0 BA BB T1
  go_wp2
  refine leaves_cons (f := 44) (args := #[.pointer (some ⟨p, 0, none⟩), .pointer (some ⟨q, 0, none⟩)]) (by simp) (by simp [go_sem]) ?_
  refine (catch_thrown p q c y [] w2 _ _ P2.out Q2.out rfl rfl (by have := HL.out; omega)).mono ?_
  rintro e u' w9 ⟨rfl, rfl, P9, Q9, t9⟩
  exact ⟨_, results_cc rfl _ _ p q 31 34 _ _ (0, 0) (0, 0) _ _ rfl P9 Tryz.underlying31 rfl info31 rfl Q9 Tryz.underlying34 rfl info34, by rw [HY.out], T2.out.trans t9 (fun i hi e => by have := HL.out; omega)⟩
set_option maxRecDepth 100000 in
set_option maxHeartbeats 4000000 in
theorem pat_ok (b : Nat) (X : Px) (f : Fl) (vn : Value) (ns : List ByteArray) (x : Nd) (st : St) (w : World) (h : PS w b X 0 f vn ns 0) (hX : X.Good) (hk : st.k ≤ X.R.length)
    (K : ∀ w', PS w' b X 0 f vn ns 0 → Calls Tryz.prog 45 #[.pointer (some ⟨b, 0, none⟩)] w' fun e w'' => NodP b X vn 0 (fun _ => False) w' (.ok (x, st)) e w'') :
    Calls Tryz.prog 27 #[.pointer (some ⟨b, 0, none⟩)] w fun e w' => PatP b X vn w (if lkR X.R st.k = -1 then .ok (x, st.ns) else .error (25, st.k)) e w' := by
  have hk2 : st.k ≤ 1024 := by have := hX.lenR; omega
  have HKP := hid (show st.k < X.P.length by have := hX.lenP; omega)
  obtain ⟨A, hA⟩ : ∃ A, A = (if lkR X.R st.k = -1 then Except.ok (x, st.ns) else .error (25, st.k) : PR (Nd × List ByteArray)) := ⟨_, rfl⟩
  rw [← hA]
  have HA := hid hA.symm
  clear hA hk hX
  obtain ⟨k, f2, ns2⟩ := st
  simp only at hk2 HKP HA
  have hmf : ∀ (fn : Fn) (first cap : Array Value) (w : World), (Instr.makeFunc fn first cap).run Tryz.prog w = .ok (.func fn first cap) w := fun _ _ _ _ => rfl
  have B := hid (begin34 (w := w) h.lt)
  have H0 := hid (h.new B.out.2.2.1)
  have KH := hid K
  unfold NodP at KH
  simp only at KH
  clear K h
  go_enter_defers Tryz.func27, Tryz.ntmps27
  go_upto_region 2 with fail
  unfold zPat at B H0
  generalize (w.alloc (.cells #[.int .i64 0, .slice none 0 0, .bool false, .int .i64 0, .int .i64 0, .bool false, .int .i64 0, .string ⟨#[]⟩, .slice none 0 0, .slice none 0 0] 31)).alloc (.cells #[.int .i64 0, .int .i64 0] 34) = w1 at *
  obtain ⟨BA, BB, T1, L⟩ := B.out
  clear B
  replace BA := hid BA
  replace BB := hid BB
  replace T1 := hid T1
  obtain ⟨p, hp⟩ : ∃ p, p = w.heap.size := ⟨_, rfl⟩
  obtain ⟨q, hq⟩ : ∃ q, q = w.heap.size + 1 := ⟨_, rfl⟩
  have HL := hid (show b < p ∧ w.heap.size ≤ p ∧ p < q from by rw [hp, hq]; exact L)
  clear L
  rw [← hq] at BB ⊢
  rw [← hp] at BA ⊢
  clear hp hq
  have NP := hid (show ∀ g, g = b ∨ vn.ownBlock = some g → ¬ g = p ∧ ¬ g = q from fun g e => by
    rcases e with e | e
    · have := HL.out
      omega
    · exact ⟨fun s => H0.out.notN BA.out (by decide) (by rw [← s]; exact e), fun s => H0.out.notN BB.out (by decide) (by rw [← s]; exact e)⟩)
  go_wp2_with fail
  refine (KH.out w1 H0.out).mono ?_
  rintro e w2 ⟨c, vn', rfl, ht2, hp2, hn2, t2⟩
  obtain ⟨ck, sa, sn, sc, fo, mi, ma, la, ca, nm, ka, kn, kc⟩ := c
  obtain ⟨an, cn, hvn⟩ := own_shape hp2.names
  subst hvn
  obtain ⟨nn, hnn⟩ : ∃ n, n = ns2.length := ⟨_, rfl⟩
  rw [← hnn] at hp2 hn2
  have HNN := hid hnn
  clear hnn
  have P2 := hid ((t2.block p (lt_of_block BA.out) (fun e => (NP.out p e).1 rfl)).trans BA.out)
  have Q2 := hid ((t2.block q (lt_of_block BB.out) (fun e => (NP.out q e).2 rfl)).trans BB.out)
  have T2 := hid (Touch.trans (S := fun g => g = b ∨ vn.ownBlock = some g) (T1.out.mono (fun _ _ e => e.elim)) t2 (fun _ _ e => e))
  have H2 := hid hp2
  have X2 := hid (ht2.more (B' := fun g => q < g ∧ g < w2.heap.size) (fun g e => by
    rcases e with e | e
    · exact e.elim
    · exact ⟨by have := lt_of_block BB.out; omega, e.2⟩))
  have HV := hid (show (Value.slice an nn cn).ownBlock = vn.ownBlock ∨ ∃ g, (Value.slice an nn cn).ownBlock = some g ∧ w.heap.size ≤ g from by
    rcases hn2 with e | ⟨g, e, hg⟩
    · exact .inl e
    · exact .inr ⟨g, e, Nat.le_trans T1.out.size hg⟩)
  clear t2 ht2 hp2 hn2 KH H0 BA BB T1
  unfold Cel.arr
  go_upto_region 3 with (first | refine wpList_store_row rfl 28 _ _ rfl w2.heap.size _ rfl rfl 28 _ (block_new w2 _ 28) info28 (by rfl) (Cel.one ⟨ck, sa, sn, sc, fo, mi, ma, la, ca, nm, ka, kn, kc⟩) ?_ | fail)
  have TB := hid (((Touch.refl (fun _ => False) w2).alloc (.cells #[.int .i64 0, .slice none 0 0, .bool false, .int .i64 0, .int .i64 0, .bool false, .int .i64 0, .string ⟨#[]⟩, .slice none 0 0] 28)).trans (touch_row (w2.alloc (.cells #[.int .i64 0, .slice none 0 0, .bool false, .int .i64 0, .int .i64 0, .bool false, .int .i64 0, .string ⟨#[]⟩, .slice none 0 0] 28)) w2.heap.size #[.int .i64 ck, .slice sa sn sc, .bool fo, .int .i64 mi, .int .i64 ma, .bool la, .int .i64 ca, .string nm, .slice ka kn kc]) (fun i hi e => by omega))
  have RA := hid (setRow_heap (w2.alloc (.cells #[.int .i64 0, .slice none 0 0, .bool false, .int .i64 0, .int .i64 0, .bool false, .int .i64 0, .string ⟨#[]⟩, .slice none 0 0] 28)) w2.heap.size _ #[.int .i64 ck, .slice sa sn sc, .bool fo, .int .i64 mi, .int .i64 ma, .bool la, .int .i64 ca, .string nm, .slice ka kn kc] 28 (0, 0) (block_new w2 _ 28))
  generalize (w2.alloc (.cells #[.int .i64 0, .slice none 0 0, .bool false, .int .i64 0, .int .i64 0, .bool false, .int .i64 0, .string ⟨#[]⟩, .slice none 0 0] 28)).setRow w2.heap.size #[.int .i64 ck, .slice sa sn sc, .bool fo, .int .i64 mi, .int .i64 ma, .bool la, .int .i64 ca, .string nm, .slice ka kn kc] = w3 at *
  obtain ⟨q4, hq4⟩ : ∃ q4, q4 = w2.heap.size := ⟨_, rfl⟩
  have HQ4 := hid (show p < q4 ∧ q < q4 from by have h1 := lt_of_block P2.out; have h2 := lt_of_block Q2.out; omega)
  rw [← hq4] at RA ⊢
  clear hq4
  replace H2 := hid (H2.out.new TB.out)
  replace X2 := hid ((X2.out.new TB.out).more (B' := fun g => q < g ∧ g < w3.heap.size) (fun g e => ⟨e.1, Nat.lt_of_lt_of_le e.2 TB.out.size⟩))
  replace P2 := hid ((TB.out.block p (lt_of_block P2.out) id).trans P2.out)
  replace Q2 := hid ((TB.out.block q (lt_of_block Q2.out) id).trans Q2.out)
  replace T2 := hid (T2.out.trans TB.out (fun _ _ e => e.elim))
  clear TB
  have KL := hid (look_at b X k f2 (.slice an nn cn) ns2 0 w3 H2.out (by omega))
  go_wp2_with fail
  refine KL.out.mono ?_
  rintro e w4 ⟨rfl, t4⟩
  replace H2 := hid (H2.out.new t4)
  replace X2 := hid ((X2.out.new t4).more (B' := fun g => q < g ∧ g < w4.heap.size) (fun g e => ⟨e.1, Nat.lt_of_lt_of_le e.2 t4.size⟩))
  replace P2 := hid ((t4.block p (lt_of_block P2.out) id).trans P2.out)
  replace Q2 := hid ((t4.block q (lt_of_block Q2.out) id).trans Q2.out)
  replace RA := hid ((t4.block q4 (lt_of_block RA.out) id).trans RA.out)
  replace T2 := hid (T2.out.trans t4 (fun _ _ e => e.elim))
  clear t4 KL
  have mixed : Tryz.prog.follows Departure.mixedOrders = true := by kernel_rfl
  by_cases hend : lkR X.R k = -1
  · rw [if_pos hend] at HA
    have hB : (lkR X.R k != (-1 : Int)) = false := by simpa using hend
    generalize lkR X.R k = y at *
    subst hend
    have SW := hid (show w4.drew.heap[q4]? = some (.cells #[.int .i64 ck, .slice sa sn sc, .bool fo, .int .i64 mi, .int .i64 ma, .bool la, .int .i64 ca, .string nm, .slice ka kn kc] 28 (0, 0)) ∧ w4.drew.cell? ⟨b, 10, none⟩ = some (.slice an nn cn) from ⟨RA.out, H2.out.c10⟩)
    have PW := hid (show w4.drew.heap[p]? = some (.cells #[.int .i64 0, .slice none 0 0, .bool false, .int .i64 0, .int .i64 0, .bool false, .int .i64 0, .string ⟨#[]⟩, .slice none 0 0, .slice none 0 0] 31 (0, 0)) from P2.out)
    have QW := hid (show w4.drew.heap[q]? = some (.cells #[.int .i64 0, .int .i64 0] 34 (0, 0)) from Q2.out)
    have TW := hid (T2.out.drew)
    have HW := hid (H2.out.new ((Touch.refl (fun _ => False) w4).drew))
    have XW := hid (X2.out.new ((Touch.refl (fun _ => False) w4).drew))
    go_upto_region 5 with fail
    clear RA P2 Q2 T2 H2 X2
    refine wp_region_held (S := fun w' => w'.heap[q4]? = some (.cells #[.int .i64 ck, .slice sa sn sc, .bool fo, .int .i64 mi, .int .i64 ma, .bool la, .int .i64 ca, .string nm, .slice ka kn kc] 28 (0, 0)) ∧ w'.cell? ⟨b, 10, none⟩ = some (.slice an nn cn)) mixed ?_
    change wpAnyH _ _ _ _ _ _ _ _ w4.drew
    replace XW := hid (show TN w4.drew (fun g => q < g ∧ g < w4.drew.heap.size) _ x from XW.out)
    generalize w4.drew = w5 at *
    refine takeD (i := 0) (v := .agg #[.int .i64 ck, .slice sa sn sc, .bool fo, .int .i64 mi, .int .i64 ma, .bool la, .int .i64 ca, .string nm, .slice ka kn kc]) (some 23) rfl (by kernel_rfl) (by kernel_rfl) (by kernel_rfl) (fun c a w h => pat_hQ _ 23 (by decide) (by decide) _ c a w h) (.inl ⟨by kernel_rfl, fun w' hS => ?_⟩) SW.out (by kernel_rfl) ?_
    · exact run_loadR _ _ _ 28 (.tmp 4) rfl q4 _ (by kernel_rfl) (run_loadVar_row (P := Tryz.prog) w' q4 28 28 _ (0, 0) _ hS.1 Tryz.underlying28 rfl info28)
    refine takeD (i := 1) (v := .pointer (some ⟨b, 0, none⟩)) (some 24) rfl (by kernel_rfl) (by kernel_rfl) (by kernel_rfl) (fun c a w h => pat_hQ _ 24 (by decide) (by decide) _ c a w h) (.inl ⟨by kernel_rfl, fun w' hS => ?_⟩) SW.out (by kernel_rfl) ?_
    · obtain ⟨_, s10⟩ := hS
      go_simp
    refine takeD (i := 2) (v := .pointer (some ⟨b, 0, none⟩)) (some 25) rfl (by kernel_rfl) (by kernel_rfl) (by kernel_rfl) (fun c a w h => pat_hQ _ 25 (by decide) (by decide) _ c a w h) (.inl ⟨by kernel_rfl, fun w' hS => ?_⟩) SW.out (by kernel_rfl) ?_
    · obtain ⟨_, s10⟩ := hS
      go_simp
    refine takeD (i := 3) (v := .pointer (some ⟨b, 10, none⟩)) (some 26) rfl (by kernel_rfl) (by kernel_rfl) (by kernel_rfl) (fun c a w h => pat_hQ _ 26 (by decide) (by decide) _ c a w h) (.inl ⟨by kernel_rfl, fun w' hS => ?_⟩) SW.out (by kernel_rfl) ?_
    · obtain ⟨_, s10⟩ := hS
      go_simp
    refine takeD (i := 4) (v := .slice an nn cn) (some 27) rfl (by kernel_rfl) (by kernel_rfl) (by kernel_rfl) (fun c a w h => pat_hQ _ 27 (by decide) (by decide) _ c a w h) (.inl ⟨by kernel_rfl, fun w' hS => ?_⟩) SW.out (by kernel_rfl) ?_
    · obtain ⟨_, s10⟩ := hS
      go_simp
    refine takeD (i := 5) (v := .agg #[.int .i64 ck, .slice sa sn sc, .bool fo, .int .i64 mi, .int .i64 ma, .bool la, .int .i64 ca, .string nm, .slice ka kn kc, .slice an nn cn]) (some 28) rfl (by kernel_rfl) (by kernel_rfl) (by kernel_rfl) (fun c a w h => pat_hQ _ 28 (by decide) (by decide) _ c a w h) (.inl ⟨by kernel_rfl, fun w' hS => ?_⟩) SW.out (by kernel_rfl) ?_
    · clear hS
      go_simp
    refine takeD (i := 6) (v := .agg #[.int .i64 0, .int .i64 0]) (some 29) rfl (by kernel_rfl) (by kernel_rfl) (by kernel_rfl) (fun c a w h => pat_hQ _ 29 (by decide) (by decide) _ c a w h) (.inl ⟨by kernel_rfl, fun w' hS => ?_⟩) SW.out (by kernel_rfl) ?_
    · clear hS
      go_simp
    have n5 : ¬ p = q := by have := HL.out; omega
    have TP := touch_row w5 p #[.int .i64 ck, .slice sa sn sc, .bool fo, .int .i64 mi, .int .i64 ma, .bool la, .int .i64 ca, .string nm, .slice ka kn kc, .slice an nn cn]
    have keepS : ∀ (g : Nat) (cs : Array Value) (wr : World), (g = p ∨ g = q) → (wr.heap[q4]? = some (.cells #[.int .i64 ck, .slice sa sn sc, .bool fo, .int .i64 mi, .int .i64 ma, .bool la, .int .i64 ca, .string nm, .slice ka kn kc] 28 (0, 0)) ∧ wr.cell? ⟨b, 10, none⟩ = some (.slice an nn cn)) → ((wr.setRow g cs).heap[q4]? = some (.cells #[.int .i64 ck, .slice sa sn sc, .bool fo, .int .i64 mi, .int .i64 ma, .bool la, .int .i64 ca, .string nm, .slice ka kn kc] 28 (0, 0)) ∧ (wr.setRow g cs).cell? ⟨b, 10, none⟩ = some (.slice an nn cn)) := fun g cs wr hg hw => by
      have TT := touch_row wr g cs
      have h1 := HQ4.out
      have h2 := HL.out
      have h3 : b < wr.heap.size := by
        have h := hw.2
        unfold World.cell? at h
        rcases Nat.lt_or_ge b wr.heap.size with e | e
        · exact e
        · rw [Array.getElem?_eq_none e] at h
          cases h
      exact ⟨(TT.block q4 (lt_of_block hw.1) (by omega)).trans hw.1, (TT.cell (p := ⟨b, 10, none⟩) h3 (by simp only; omega)).trans hw.2⟩
    have FIN : ∀ w9 : World, w9.heap[p]? = some (.cells #[.int .i64 ck, .slice sa sn sc, .bool fo, .int .i64 mi, .int .i64 ma, .bool la, .int .i64 ca, .string nm, .slice ka kn kc, .slice an nn cn] 31 (0, 0)) → w9.heap[q]? = some (.cells #[.int .i64 0, .int .i64 0] 34 (0, 0)) → Touch (fun g => g = p ∨ g = q) w5 w9 → PatP b X vn w (.ok (x, ns2)) (.returned (.tuple #[.agg (Cel.arr ⟨ck, sa, sn, sc, fo, mi, ma, la, ca, nm, ka, kn, kc⟩ ++ #[.slice an nn cn]), .agg #[.int .i64 0, .int .i64 0]])) w9 := fun w9 _ _ t9 => by
      refine ⟨_, _, rfl, (XW.out.kept t9 (fun g hg s => ?_)).more (fun g hg => ⟨?_, Nat.lt_of_lt_of_le hg.2 t9.size⟩), ?_, HV.out, TW.out.trans t9 (fun i hi e => by have := HL.out; omega)⟩
      · have := HL.out
        omega
      · have := HL.out
        omega
      · exact rowKept HW.out.names t9 (fun g e s => by
          rcases s with s | s
          · subst s; exact HW.out.notN PW.out (by decide) e
          · subst s; exact HW.out.notN QW.out (by decide) e)
    refine wpAnyH_ready (rs := [7]) (by kernel_rfl) (by simp) ?_
    refine AllReadyH.skip rfl (by kernel_rfl) (w5.setRow p #[.int .i64 ck, .slice sa sn sc, .bool fo, .int .i64 mi, .int .i64 ma, .bool la, .int .i64 ca, .string nm, .slice ka kn kc, .slice an nn cn]) (run_storeR _ _ _ 31 10 (.tmp 2) (.tmp 28) rfl p 31 #[.int .i64 ck, .slice sa sn sc, .bool fo, .int .i64 mi, .int .i64 ma, .bool la, .int .i64 ca, .string nm, .slice ka kn kc, .slice an nn cn] #[.int .i64 0, .slice none 0 0, .bool false, .int .i64 0, .int .i64 0, .bool false, .int .i64 0, .string ⟨#[]⟩, .slice none 0 0, .slice none 0 0] (by kernel_rfl) (by kernel_rfl) PW.out rfl rfl info31 (by simp [Value.oneCell'])) (keepS p _ w5 (.inl rfl) SW.out) (by kernel_rfl) ?_ AllReadyH.nil
    · have Q3 := (TP.block q (lt_of_block QW.out) (fun e => n5 e.symm)).trans QW.out
      have P3 := setRow_heap w5 p _ #[.int .i64 ck, .slice sa sn sc, .bool fo, .int .i64 mi, .int .i64 ma, .bool la, .int .i64 ca, .string nm, .slice ka kn kc, .slice an nn cn] 31 (0, 0) PW.out
      have S3 := keepS p #[.int .i64 ck, .slice sa sn sc, .bool fo, .int .i64 mi, .int .i64 ma, .bool la, .int .i64 ca, .string nm, .slice ka kn kc, .slice an nn cn] w5 (.inl rfl) SW.out
      generalize w5.setRow p #[.int .i64 ck, .slice sa sn sc, .bool fo, .int .i64 mi, .int .i64 ma, .bool la, .int .i64 ca, .string nm, .slice ka kn kc, .slice an nn cn] = w6 at *
      have TQ3 := touch_row w6 q #[.int .i64 0, .int .i64 0]
      refine wpAnyH_ready (rs := [8]) (by kernel_rfl) (by simp) ?_
      refine AllReadyH.skip rfl (by kernel_rfl) (w6.setRow q #[.int .i64 0, .int .i64 0]) (run_storeR _ _ _ 34 2 (.tmp 3) (.tmp 29) rfl q 34 #[.int .i64 0, .int .i64 0] #[.int .i64 0, .int .i64 0] (by kernel_rfl) (by kernel_rfl) Q3 rfl rfl info34 (two_one34 _ _)) (keepS q _ w6 (.inr rfl) S3) (by kernel_rfl) ?_ AllReadyH.nil
      refine wpAnyH_done (by kernel_rfl) ?_ _
      have P4 := (TQ3.block p (lt_of_block P3) n5).trans P3
      have Q4 := setRow_heap w6 q _ #[.int .i64 0, .int .i64 0] 34 (0, 0) Q3
      have F4 := FIN _ P4 Q4 ((TP.mono (fun _ _ e => .inl e)).trans TQ3 (fun _ _ e => .inr e))
      rw [HA.out] at F4
      clear FIN keepS
      generalize w6.setRow q #[.int .i64 0, .int .i64 0] = w7 at *
      simp only [Act.put, List.setIfInBounds_toArray, List.set_cons_succ, List.set_cons_zero]
      go_wp2
      refine leaves_cons (f := 44) (args := #[.pointer (some ⟨p, 0, none⟩), .pointer (some ⟨q, 0, none⟩)]) (by simp) (by simp [go_sem]) ?_
      refine (catch_idle ⟨p, 0, none⟩ ⟨q, 0, none⟩ w7).mono ?_
      rintro e u' w9 ⟨rfl, rfl, rfl⟩
      exact ⟨_, results_cc rfl _ _ p q 31 34 _ _ (0, 0) (0, 0) _ _ rfl P4 Tryz.underlying31 rfl info31 rfl Q4 Tryz.underlying34 rfl info34, F4⟩
  · rw [if_neg hend] at HA
    have hB : (lkR X.R k != (-1 : Int)) = true := by simpa using hend
    generalize lkR X.R k = y at *
    have SW := hid (show w4.drew.cell? ⟨b, 5, none⟩ = some (.int .i64 (k : Nat)) from H2.out.c5)
    have PW := hid (show w4.drew.heap[p]? = some (.cells #[.int .i64 0, .slice none 0 0, .bool false, .int .i64 0, .int .i64 0, .bool false, .int .i64 0, .string ⟨#[]⟩, .slice none 0 0, .slice none 0 0] 31 (0, 0)) from P2.out)
    have QW := hid (show w4.drew.heap[q]? = some (.cells #[.int .i64 0, .int .i64 0] 34 (0, 0)) from Q2.out)
    have TW := hid (T2.out.drew)
    have HW := hid (H2.out.new ((Touch.refl (fun _ => False) w4).drew))
    go_upto_region 4 with fail
    clear RA P2 Q2 T2 H2 X2
    refine wp_region_held (S := fun w' => w'.cell? ⟨b, 5, none⟩ = some (.int .i64 (k : Nat))) mixed ?_
    change wpAnyH _ _ _ _ _ _ _ _ w4.drew
    generalize w4.drew = w5 at *
    refine takeD (i := 0) (v := .pointer (some ⟨b, 0, none⟩)) (some 13) rfl (by kernel_rfl) (by kernel_rfl) (by kernel_rfl) (fun c a w h => pat_hQ _ 13 (by decide) (by decide) _ c a w h) (.inl ⟨by kernel_rfl, fun w' hS => ?_⟩) SW.out (by kernel_rfl) ?_
    · go_simp
    refine takeD (i := 1) (v := .pointer (some ⟨b, 0, none⟩)) (some 14) rfl (by kernel_rfl) (by kernel_rfl) (by kernel_rfl) (fun c a w h => pat_hQ _ 14 (by decide) (by decide) _ c a w h) (.inl ⟨by kernel_rfl, fun w' hS => ?_⟩) SW.out (by kernel_rfl) ?_
    · go_simp
    refine takeD (i := 2) (v := .pointer (some ⟨b, 0, none⟩)) (some 15) rfl (by kernel_rfl) (by kernel_rfl) (by kernel_rfl) (fun c a w h => pat_hQ _ 15 (by decide) (by decide) _ c a w h) (.inl ⟨by kernel_rfl, fun w' hS => ?_⟩) SW.out (by kernel_rfl) ?_
    · go_simp
    refine takeD (i := 3) (v := .pointer (some ⟨b, 0, none⟩)) (some 16) rfl (by kernel_rfl) (by kernel_rfl) (by kernel_rfl) (fun c a w h => pat_hQ _ 16 (by decide) (by decide) _ c a w h) (.inl ⟨by kernel_rfl, fun w' hS => ?_⟩) SW.out (by kernel_rfl) ?_
    · go_simp
    refine takeD (i := 4) (v := .pointer (some ⟨b, 0, none⟩)) (some 17) rfl (by kernel_rfl) (by kernel_rfl) (by kernel_rfl) (fun c a w h => pat_hQ _ 17 (by decide) (by decide) _ c a w h) (.inl ⟨by kernel_rfl, fun w' hS => ?_⟩) SW.out (by kernel_rfl) ?_
    · go_simp
    refine takeD (i := 5) (v := .pointer (some ⟨b, 0, none⟩)) (some 18) rfl (by kernel_rfl) (by kernel_rfl) (by kernel_rfl) (fun c a w h => pat_hQ _ 18 (by decide) (by decide) _ c a w h) (.inl ⟨by kernel_rfl, fun w' hS => ?_⟩) SW.out (by kernel_rfl) ?_
    · go_simp
    refine takeD (i := 6) (v := .pointer (some ⟨b, 5, none⟩)) (some 19) rfl (by kernel_rfl) (by kernel_rfl) (by kernel_rfl) (fun c a w h => pat_hQ _ 19 (by decide) (by decide) _ c a w h) (.inl ⟨by kernel_rfl, fun w' hS => ?_⟩) SW.out (by kernel_rfl) ?_
    · go_simp
    refine takeD (i := 7) (v := .int .i64 (k : Nat)) (some 20) rfl (by kernel_rfl) (by kernel_rfl) (by kernel_rfl) (fun c a w h => pat_hQ _ 20 (by decide) (by decide) _ c a w h) (.inl ⟨by kernel_rfl, fun w' hS => ?_⟩) SW.out (by kernel_rfl) ?_
    · go_simp
    refine wpAnyH_ready (rs := [8]) (by kernel_rfl) (by simp) ?_
    refine AllReadyH.callD (some 21) rfl (by kernel_rfl) 47 _ _ rfl #[.pointer (some ⟨b, 0, none⟩), .int .i64 25, .int .i64 (k : Nat)] (by kernel_rfl) (fun _ _ => by kernel_rfl) (fun v w' => v = .agg #[.int .i64 25, .int .i64 (lkR X.P k)] ∧ Touch (fun _ => False) w5 w') ((wrong_any b X k f2 (.slice an nn cn) ns2 0 25 k w5 HW.out HKP.out).mono (fun e w' h => ⟨_, h.1, rfl, h.2⟩)) (by kernel_rfl) ?_ AllReadyH.nil
    rintro v6 w6 ⟨rfl, t6⟩
    have S6 := hid (show w6.cell? ⟨b, 5, none⟩ = some (.int .i64 (k : Nat)) from (t6.cell (p := ⟨b, 5, none⟩) HW.out.lt id).trans SW.out)
    have P6 := hid ((t6.block p (lt_of_block PW.out) id).trans PW.out)
    have Q6 := hid ((t6.block q (lt_of_block QW.out) id).trans QW.out)
    have T6 := hid (TW.out.trans t6 (fun _ _ e => e.elim))
    refine ⟨S6.out, ?_⟩
    clear t6 PW QW TW SW HW
    refine wpAnyH_ready (rs := [9]) (by kernel_rfl) (by simp) ?_
    refine AllReadyH.runD (some 22) rfl (by kernel_rfl) (.iface 34 (.agg #[.int .i64 25, .int .i64 (lkR X.P k)])) w6 (by go_simp) S6.out (by kernel_rfl) ?_ AllReadyH.nil
    refine wpAnyH_ready (rs := [10]) (by kernel_rfl) (by simp) ?_
    refine AllReadyH.throw rfl (by kernel_rfl) (.iface 34 (.agg #[.int .i64 25, .int .i64 (lkR X.P k)])) w6 (by go_simp) ?_ AllReadyH.nil
    obtain ⟨z, hz⟩ : ∃ z, z = lkR X.P k := ⟨_, rfl⟩
    rw [← hz]
    simp only [Act.put, List.setIfInBounds_toArray, List.set_cons_succ, List.set_cons_zero]
    refine leaves_cons (f := 44) (args := #[.pointer (some ⟨p, 0, none⟩), .pointer (some ⟨q, 0, none⟩)]) (by simp) (by simp [go_sem]) ?_
    refine (catch_thrown p q 25 z [] w6 _ _ P6.out Q6.out rfl rfl (by have := HL.out; omega)).mono ?_
    rintro e u' w9 ⟨rfl, rfl, P9, Q9, t9⟩
    rw [← HA.out]
    exact ⟨_, results_cc rfl _ _ p q 31 34 _ _ (0, 0) (0, 0) _ _ rfl P9 Tryz.underlying31 rfl info31 rfl Q9 Tryz.underlying34 rfl info34, by rw [hz], T6.out.trans t9 (fun i hi e => by have := HL.out; omega)⟩
theorem pattern_any (b : Nat) (X : Px) (f : Fl) (vn : Value) (ns : List ByteArray) (w : World) (h : PS w b X 0 f vn ns 0) (hX : X.Good) (hn : ns = [⟨#[]⟩]) :
    Calls Tryz.prog 27 #[.pointer (some ⟨b, 0, none⟩)] w fun e w' => PatP b X vn w (patF X.R tableN f) e w' := by
  subst hn
  have K := fun w' (hp : PS w' b X 0 f vn [⟨#[]⟩] 0) => altN_c b X hX 32 0 rfl w' 0 f vn [⟨#[]⟩] hp (Nat.zero_le _) (by simp)
  unfold patF
  cases hR : altN X.R tableN 32 ⟨0, f, [⟨#[]⟩]⟩ with
  | error e0 =>
    obtain ⟨c, j⟩ := e0
    rw [hR] at K
    exact pat_bad b X f vn _ c j w h K
  | ok p =>
    obtain ⟨x, st⟩ := p
    rw [hR] at K
    exact pat_ok b X f vn _ x st w h hX (altN_fwd X.R tableN 32 _ _ _ (Nat.zero_le _) hR).2 K
end Go.Proofs.YtdhhcefmmojcmaaGreatDoor
