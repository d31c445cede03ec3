/- A parser of patterns: Parse of any text; no condition. -/
import Derived.Test.YtdhhcefmmojcmaaGreatDoorYv
import Derived.Test.YtdhhcefmmojcmaaGreatDoorM40
import Derived.Test.YtdhhcefmmojcmaaGreatDoorKDd
namespace Go.Proofs.YtdhhcefmmojcmaaGreatDoor
open Go.RowKit
open Go.Lib

/-- What Parse answers. -/
def PrsP (w : World) : Except (Int × Int) (Nd × List ByteArray) → Ending → World → Prop
  | .error (c, i), e, w' => e = .returned (.tuple #[.agg zPat, .agg #[.int .i64 c, .int .i64 i]]) ∧ Touch (fun _ => False) w w'
  | .ok (x, ns), e, w' => ∃ c a n m, e = .returned (.tuple #[.agg (Cel.arr c ++ #[.slice a n m]), .agg #[.int .i64 0, .int .i64 0]]) ∧ TN w' (fun g => w.heap.size ≤ g ∧ g < w'.heap.size) c x ∧ SL w' (.slice a n m) ns ∧ (∀ g, (Value.slice a n m).ownBlock = some g → w.heap.size ≤ g) ∧ Touch (fun _ => False) w w'
/-- The blocks of Parse's own. -/
theorem begin12 (w : World) (fl : Array Value) :
    (((w.alloc (.cells fl 38)).alloc (.cells zPat 31)).alloc (.cells #[.int .i64 0, .int .i64 0] 34)).heap[w.heap.size]? = some (.cells fl 38 (0, 0)) ∧
    (((w.alloc (.cells fl 38)).alloc (.cells zPat 31)).alloc (.cells #[.int .i64 0, .int .i64 0] 34)).heap[w.heap.size + 1]? = some (.cells zPat 31 (0, 0)) ∧
    (((w.alloc (.cells fl 38)).alloc (.cells zPat 31)).alloc (.cells #[.int .i64 0, .int .i64 0] 34)).heap[w.heap.size + 1 + 1]? = some (.cells #[.int .i64 0, .int .i64 0] 34 (0, 0)) ∧
    Touch (fun _ => False) w (((w.alloc (.cells fl 38)).alloc (.cells zPat 31)).alloc (.cells #[.int .i64 0, .int .i64 0] 34)) := by
  have T1 := (Touch.refl (fun _ => False) w).alloc (.cells fl 38)
  have T2 := (Touch.refl (fun _ => False) (w.alloc (.cells fl 38))).alloc (.cells zPat 31)
  have T3 := (Touch.refl (fun _ => False) ((w.alloc (.cells fl 38)).alloc (.cells zPat 31))).alloc (.cells #[.int .i64 0, .int .i64 0] 34)
  have e1 : (w.alloc (.cells fl 38)).heap.size = w.heap.size + 1 := by simp
  have e2 : ((w.alloc (.cells fl 38)).alloc (.cells zPat 31)).heap.size = w.heap.size + 2 := by simp
  refine ⟨?_, ?_, ?_, (T1.trans T2 (fun _ _ e => e)).trans T3 (fun _ _ e => e)⟩
  · rw [T3.block _ (by omega) id, T2.block _ (by omega) id]
    exact block_new w fl 38
  · rw [T3.block _ (by omega) id]
    have := block_new (w.alloc (.cells fl 38)) zPat 31
    rw [e1] at this
    exact this
  · have := block_new ((w.alloc (.cells fl 38)).alloc (.cells zPat 31)) #[.int .i64 0, .int .i64 0] 34
    rw [e2] at this
    exact this
theorem two_rows {w : World} {p q : Nat} {a b : Array Value} (hp : w.heap[p]? = some (.cells a 31 (0, 0))) (hq : w.heap[q]? = some (.cells b 34 (0, 0))) (hne : p ≠ q) (a' b' : Array Value) :
    (w.setRow p a').heap[q]? = some (.cells b 34 (0, 0)) ∧ ((w.setRow p a').setRow q b').heap[p]? = some (.cells a' 31 (0, 0)) ∧ ((w.setRow p a').setRow q b').heap[q]? = some (.cells b' 34 (0, 0)) ∧ Touch (fun g => g = p ∨ g = q) w ((w.setRow p a').setRow q b') := by
  have t1 := touch_row w p a'
  have t2 := touch_row (w.setRow p a') q b'
  have h1 := (t1.block q (lt_of_block hq) (fun e => hne e.symm)).trans hq
  have h2 := setRow_heap w p _ a' 31 (0, 0) hp
  exact ⟨h1, (t2.block p (lt_of_block h2) hne).trans h2, setRow_heap (w.setRow p a') q _ b' 34 (0, 0) h1, Touch.trans (S := fun g => g = p ∨ g = q) (t1.mono (fun _ _ e => .inl e)) t2 (fun _ _ e => .inr e)⟩
theorem bg_one (s : ByteArray) : (bg s 1).1 = 1 := by
  unfold bg
  rw [if_neg (by decide)]
  split
  · rfl
  · rfl
set_option maxRecDepth 100000 in
set_option maxHeartbeats 4000000 in
theorem parse_long (s : ByteArray) (f : Fl) (w : World) (h : 1024 < s.size) :
    Calls Tryz.prog 12 #[.string s, .agg #[.bool f.i, .bool f.m, .bool f.s, .bool f.u]] w fun e w' => PrsP w (.error (2, 0)) e w' := by
  have hI : (1024 : Int) < (s.size : Int) := by omega
  have B := hid (begin12 w #[.bool f.i, .bool f.m, .bool f.s, .bool f.u])
  go_enter Tryz.func12, Tryz.ntmps12
  go_upto_region 1 with fail
  unfold zPat at B
  generalize (((w.alloc (.cells #[.bool f.i, .bool f.m, .bool f.s, .bool f.u] 38)).alloc (.cells #[.int .i64 0, .slice none 0 0, .bool false, .int .i64 0, .int .i64 0, .bool false, .int .i64 0, .string ⟨#[]⟩, .slice none 0 0, .slice none 0 0] 31)).alloc (.cells #[.int .i64 0, .int .i64 0] 34)) = w1 at *
  obtain ⟨B0, B1, B2, T⟩ := B.out
  clear B
  obtain ⟨q, hq⟩ : ∃ q, q = w.heap.size := ⟨_, rfl⟩
  obtain ⟨p, hp⟩ : ∃ p, p = w.heap.size + 1 := ⟨_, rfl⟩
  obtain ⟨r, hr⟩ : ∃ r, r = w.heap.size + 1 + 1 := ⟨_, rfl⟩
  have HQ := hid (show w.heap.size ≤ q ∧ q < p ∧ p < r from by omega)
  rw [← hr] at B2 ⊢
  rw [← hp] at B1 ⊢
  rw [← hq] at B0 ⊢
  clear hq hp hr
  obtain ⟨R1, R2, R3, R4⟩ := two_rows B1 B2 (by have := HQ.out; omega) #[.int .i64 0, .slice none 0 0, .bool false, .int .i64 0, .int .i64 0, .bool false, .int .i64 0, .string ⟨#[]⟩, .slice none 0 0, .slice none 0 0] #[.int .i64 2, .int .i64 0]
  have TT := hid (T.trans R4 (fun i hi e => by have := HQ.out; omega))
  replace B1 := hid B1
  replace R1 := hid R1
  replace R2 := hid R2
  replace R3 := hid R3
  clear B0 B2 T R4
  go_upto_region 2 with fail
  go_wp2_with (first | refine wpList_store_row rfl 31 _ _ rfl p _ rfl rfl 31 _ B1.out info31 (by rfl) zPat_one ?_ | refine wpList_store_row rfl 34 _ _ rfl r _ rfl rfl 34 _ R1.out info34 (by rfl) (two_one34 _ _) ?_ | fail)
  exact bodyPost_ret (results_cc rfl _ _ p r 31 34 _ _ (0, 0) (0, 0) _ _ rfl R2.out Tryz.underlying31 rfl info31 rfl R3.out Tryz.underlying34 rfl info34) rfl ⟨rfl, TT.out⟩
set_option maxRecDepth 100000 in
set_option maxHeartbeats 4000000 in
theorem parse_bad (s : ByteArray) (f : Fl) (w : World) (i : Nat) (ht : TabsK w) (h : s.size ≤ 1024) (hd : (dcGo s 1 true s.size (bg s 1).2 [] [] 0).1 = some i) :
    Calls Tryz.prog 12 #[.string s, .agg #[.bool f.i, .bool f.m, .bool f.s, .bool f.u]] w fun e w' => PrsP w (.error (17, (i : Nat))) e w' := by
  have hI : (s.size : Int) ≤ (1024 : Int) := by omega
  have hs2 : s.size ≤ 1099511627776 := by omega
  have HT := hid ht
  have HD := hid hd
  clear ht hd h
  have B := hid (begin12 w #[.bool f.i, .bool f.m, .bool f.s, .bool f.u])
  go_enter Tryz.func12, Tryz.ntmps12
  go_upto_region 1 with fail
  unfold zPat at B
  generalize (((w.alloc (.cells #[.bool f.i, .bool f.m, .bool f.s, .bool f.u] 38)).alloc (.cells #[.int .i64 0, .slice none 0 0, .bool false, .int .i64 0, .int .i64 0, .bool false, .int .i64 0, .string ⟨#[]⟩, .slice none 0 0, .slice none 0 0] 31)).alloc (.cells #[.int .i64 0, .int .i64 0] 34)) = w1 at *
  obtain ⟨B0, B1, B2, T⟩ := B.out
  clear B
  obtain ⟨q, hq⟩ : ∃ q, q = w.heap.size := ⟨_, rfl⟩
  obtain ⟨p, hp⟩ : ∃ p, p = w.heap.size + 1 := ⟨_, rfl⟩
  obtain ⟨r, hr⟩ : ∃ r, r = w.heap.size + 1 + 1 := ⟨_, rfl⟩
  have HQ := hid (show w.heap.size ≤ q ∧ q < p ∧ p < r from by omega)
  rw [← hr] at B2 ⊢
  rw [← hp] at B1 ⊢
  rw [← hq] at B0 ⊢
  clear hq hp hr
  have KD := hid (decode_any s 1 true w1 (HT.out.new T) hs2 (by decide))
  rw [bg_one] at KD
  have BB := hid (And.intro B1 B2)
  have TT := hid T
  clear B0 B1 B2 T
  go_wp2_with fail
  refine KD.out.mono ?_
  rintro e w2 hR
  obtain ⟨rfl, t2⟩ : e = .returned (.tuple #[.agg zeroT, .agg #[.int .i64 17, .int .i64 i]]) ∧ Touch (fun _ => False) w1 w2 := by
    rcases hR with ⟨j, hj, hb⟩ | ⟨hj, _⟩
    · rw [HD.out] at hj
      cases hj
      exact ⟨hb.ret, hb.touch⟩
    · rw [HD.out] at hj
      cases hj
  clear hR KD
  unfold zeroT
  have B1 := hid ((t2.block _ (lt_of_block BB.out.1) id).trans BB.out.1)
  have B2 := hid ((t2.block _ (lt_of_block BB.out.2) id).trans BB.out.2)
  have T2 := hid (TT.out.trans t2 (fun _ _ e => e))
  clear t2 TT BB
  go_upto_region 5 with fail
  have TA := hid (((Touch.refl (fun _ => False) w2).alloc (.cells #[.int .i64 0, .slice none 0 0, .slice none 0 0, .int .i64 0] 67)).alloc (.cells #[.int .i64 17, .int .i64 (i : Nat)] 34))
  have BA := hid (block_new (w2.alloc (.cells #[.int .i64 0, .slice none 0 0, .slice none 0 0, .int .i64 0] 67)) #[.int .i64 17, .int .i64 (i : Nat)] 34)
  rw [show (w2.alloc (.cells #[.int .i64 0, .slice none 0 0, .slice none 0 0, .int .i64 0] 67)).heap.size = w2.heap.size + 1 by simp] at BA
  have HL := hid (show p < w2.heap.size ∧ r < w2.heap.size from ⟨lt_of_block B1.out, lt_of_block B2.out⟩)
  generalize (w2.alloc (.cells #[.int .i64 0, .slice none 0 0, .slice none 0 0, .int .i64 0] 67)).alloc (.cells #[.int .i64 17, .int .i64 (i : Nat)] 34) = w3 at *
  obtain ⟨x, hx⟩ : ∃ x, x = w2.heap.size + 1 := ⟨_, rfl⟩
  have HN := hid (show p ≠ x ∧ r ≠ x from by have := HL.out; omega)
  rw [← hx] at BA ⊢
  clear hx HL
  replace B1 := hid ((TA.out.block p (lt_of_block B1.out) id).trans B1.out)
  replace B2 := hid ((TA.out.block r (lt_of_block B2.out) id).trans B2.out)
  replace T2 := hid (T2.out.trans TA.out (fun _ _ e => e))
  clear TA
  have mixed : Tryz.prog.follows Departure.mixedOrders = true := by kernel_rfl
  have SW := hid (show w3.drew.heap[x]? = some (.cells #[.int .i64 17, .int .i64 (i : Nat)] 34 (0, 0)) from BA.out)
  have PW := hid (show w3.drew.heap[p]? = some (.cells #[.int .i64 0, .slice none 0 0, .bool false, .int .i64 0, .int .i64 0, .bool false, .int .i64 0, .string ⟨#[]⟩, .slice none 0 0, .slice none 0 0] 31 (0, 0)) from B1.out)
  have QW := hid (show w3.drew.heap[r]? = some (.cells #[.int .i64 0, .int .i64 0] 34 (0, 0)) from B2.out)
  have TW := hid (T2.out.drew)
  clear BA B1 B2 T2
  refine wp_region_held (S := fun w' => w'.heap[x]? = some (.cells #[.int .i64 17, .int .i64 (i : Nat)] 34 (0, 0))) mixed ?_
  change wpAnyH _ _ _ _ _ _ _ _ w3.drew
  generalize w3.drew = w4 at *
  refine takeD (i := 0) (v := .agg zPat) (some 22) rfl (by kernel_rfl) (by kernel_rfl) (by kernel_rfl) (fun _ _ _ h => h) (.inl ⟨by kernel_rfl, fun w' hS => ?_⟩) SW.out (by kernel_rfl) ?_
  · clear hS
    go_simp
    rfl
  refine takeD (i := 1) (v := .agg #[.int .i64 17, .int .i64 (i : Nat)]) (some 23) rfl (by kernel_rfl) (by kernel_rfl) (by kernel_rfl) (fun _ _ _ h => h) (.inl ⟨by kernel_rfl, fun w' hS => ?_⟩) SW.out (by kernel_rfl) ?_
  · exact run_loadR _ _ _ 34 (.tmp 7) rfl x _ (by kernel_rfl) (run_loadVar_row (P := Tryz.prog) w' x 34 34 _ (0, 0) _ hS Tryz.underlying34 rfl info34)
  refine wpAnyH_ready (rs := [2]) (by kernel_rfl) (by simp) ?_
  have TP := touch_row w4 p zPat
  have hpr : p ≠ r := by have := HQ.out; omega
  refine AllReadyH.skip rfl (by kernel_rfl) (w4.setRow p zPat) (run_storeR _ _ _ 31 10 (.tmp 4) (.tmp 22) rfl p 31 zPat #[.int .i64 0, .slice none 0 0, .bool false, .int .i64 0, .int .i64 0, .bool false, .int .i64 0, .string ⟨#[]⟩, .slice none 0 0, .slice none 0 0] (by kernel_rfl) (by kernel_rfl) PW.out rfl rfl info31 zPat_one) ((TP.block x (lt_of_block SW.out) (fun e => HN.out.1 e.symm)).trans SW.out) (by kernel_rfl) ?_ AllReadyH.nil
  have Q3 := (TP.block r (lt_of_block QW.out) (fun e => hpr e.symm)).trans QW.out
  have P3 := setRow_heap w4 p _ zPat 31 (0, 0) PW.out
  have R3 := (TP.block x (lt_of_block SW.out) (fun e => HN.out.1 e.symm)).trans SW.out
  generalize w4.setRow p zPat = w5 at *
  have TQ3 := touch_row w5 r #[.int .i64 17, .int .i64 (i : Nat)]
  refine wpAnyH_ready (rs := [3]) (by kernel_rfl) (by simp) ?_
  refine AllReadyH.skip rfl (by kernel_rfl) (w5.setRow r #[.int .i64 17, .int .i64 (i : Nat)]) (run_storeR _ _ _ 34 2 (.tmp 5) (.tmp 23) rfl r 34 #[.int .i64 17, .int .i64 (i : Nat)] #[.int .i64 0, .int .i64 0] (by kernel_rfl) (by kernel_rfl) Q3 rfl rfl info34 (two_one34 _ _)) ((TQ3.block x (lt_of_block R3) (fun e => HN.out.2 e.symm)).trans R3) (by kernel_rfl) ?_ AllReadyH.nil
  refine wpAnyH_done (by kernel_rfl) ?_ _
  have P4 := (TQ3.block p (lt_of_block P3) (fun e => hpr e)).trans P3
  have Q4 := setRow_heap w5 r _ #[.int .i64 17, .int .i64 (i : Nat)] 34 (0, 0) Q3
  have TPQ : Touch (fun k => k = p ∨ k = r) w4 (w5.setRow r #[.int .i64 17, .int .i64 (i : Nat)]) := Touch.trans (S := fun k => k = p ∨ k = r) (TP.mono (fun _ _ e => .inl e)) TQ3 (fun _ _ e => .inr e)
  have T4 := TW.out.trans TPQ (fun i hi e => by have := HQ.out; omega)
  generalize w5.setRow r #[.int .i64 17, .int .i64 (i : Nat)] = w6 at *
  simp only [Act.put, List.setIfInBounds_toArray, List.set_cons_succ, List.set_cons_zero]
  go_wp2
  exact bodyPost_ret (results_cc rfl _ _ p r 31 34 _ _ (0, 0) (0, 0) _ _ rfl P4 Tryz.underlying31 rfl info31 rfl Q4 Tryz.underlying34 rfl info34) rfl ⟨rfl, T4⟩
theorem info67r : (Tryz.prog.info? 67).map (·.size) = some 4 := by kernel_rfl
/-- What is told of a pattern's scalars. -/
def patR (R P : List Int) (n : Nat) (f : Fl) : Except (Int × Int) (Nd × List ByteArray) := match patF R tableN f with
  | .ok r => .ok r
  | .error (c, j) => .error ((c : Nat), lkR (P ++ [(n : Int)]) j)
theorem io_own {w : World} {a : Option Addr} {n c : Nat} {l : List Int} (h : w.ownsRow 0 3 1 (.slice a n c) l.length (encIK l)) : Io w a l := by
  rcases h.2 with ⟨_, k⟩ | ⟨g, cap, cur, hv, hg, hh, rest⟩
  · exact .inl (List.eq_nil_of_length_eq_zero k)
  · refine .inr ⟨g, 0, ?_, fun i hi => ?_⟩
    · cases hv
      rfl
    · have := h.cells (g := g) (by cases hv; rfl) i (.int .i64 l[i]) (by simp [encIK, hi])
      rw [add_gK] at this
      simp only [Nat.zero_add]
      exact this
set_option maxRecDepth 100000 in
theorem begin_ps (w1 w3 : World) (s : ByteArray) (f : Fl) (R Q : List Int) (a1 a2 : Option Addr) (n1 c1 n2 c2 : Nat) (bad : Int) (O1 : OwIK w1 w3 (.slice a1 n1 c1) R) (O2 : OwIK w1 w3 (.slice a2 n2 c2) Q) (e1 : n1 = R.length) (e2 : n2 = Q.length) (hx : Sx w3) (h7 : 7 ≤ w1.heap.size) :
    PS ((w3.alloc (.cells #[.string ⟨#[]⟩] 9)).alloc (.cells #[.int .i64 1, .slice a1 n1 c1, .slice a2 n2 c2, .int .i64 bad, .string s, .int .i64 0, .bool f.i, .bool f.m, .bool f.s, .bool f.u, .slice (some ⟨w3.heap.size, 0, none⟩) 1 1, .int .i64 0] 74))
      (w3.heap.size + 1) ⟨R, Q, s, 1, bad, a1, c1, a2, c2⟩ 0 f (.slice (some ⟨w3.heap.size, 0, none⟩) 1 1) [⟨#[]⟩] 0 ∧
    Touch (fun _ => False) w3 ((w3.alloc (.cells #[.string ⟨#[]⟩] 9)).alloc (.cells #[.int .i64 1, .slice a1 n1 c1, .slice a2 n2 c2, .int .i64 bad, .string s, .int .i64 0, .bool f.i, .bool f.m, .bool f.s, .bool f.u, .slice (some ⟨w3.heap.size, 0, none⟩) 1 1, .int .i64 0] 74)) := by
  subst e1
  subst e2
  have t1 := (Touch.refl (fun _ => False) w3).alloc (.cells #[.string ⟨#[]⟩] 9)
  have t2 := (Touch.refl (fun _ => False) (w3.alloc (.cells #[.string ⟨#[]⟩] 9))).alloc (.cells #[.int .i64 1, .slice a1 R.length c1, .slice a2 Q.length c2, .int .i64 bad, .string s, .int .i64 0, .bool f.i, .bool f.m, .bool f.s, .bool f.u, .slice (some ⟨w3.heap.size, 0, none⟩) 1 1, .int .i64 0] 74)
  have es : (w3.alloc (.cells #[.string ⟨#[]⟩] 9)).heap.size = w3.heap.size + 1 := by simp
  have tt := t1.trans t2 (fun _ _ e => e)
  have hb := block_new (w3.alloc (.cells #[.string ⟨#[]⟩] 9)) #[.int .i64 1, .slice a1 R.length c1, .slice a2 Q.length c2, .int .i64 bad, .string s, .int .i64 0, .bool f.i, .bool f.m, .bool f.s, .bool f.u, .slice (some ⟨w3.heap.size, 0, none⟩) 1 1, .int .i64 0] 74
  rw [es] at hb
  have hn := (t2.block w3.heap.size (by rw [es]; omega) id).trans (block_new w3 #[.string ⟨#[]⟩] 9)
  have hw := O1.touch.size
  have l1 : ∀ g o, a1 = some ⟨g, o, none⟩ → g < w3.heap.size := fun g o e => own_lt2 O1.own g (by rw [e]; rfl)
  have l2 : ∀ g o, a2 = some ⟨g, o, none⟩ → g < w3.heap.size := fun g o e => own_lt2 O2.own g (by rw [e]; rfl)
  refine ⟨⟨hb, (io_own O1.own).new tt, (io_own O2.own).new tt, ?_, fun g o e => ?_, fun g o e => ?_, hx.new tt, by omega, fun g e => ?_, fun g o e => ?_⟩, tt⟩
  · exact ⟨rfl, .inr ⟨w3.heap.size, 1, #[.string ⟨#[]⟩], rfl, Nat.zero_le _, hn, Nat.le_refl _, by unfold maxLen; omega, rfl, rfl⟩⟩
  · have := l1 g o e
    omega
  · have := l2 g o e
    omega
  · obtain rfl : w3.heap.size = g := Option.some.inj e
    omega
  · intro e2
    cases e2
    rcases e with e | e
    · exact Nat.lt_irrefl _ (l1 _ _ e)
    · exact Nat.lt_irrefl _ (l2 _ _ e)
set_option maxRecDepth 100000 in
set_option maxHeartbeats 4000000 in
theorem parse_good (s : ByteArray) (f : Fl) (w : World) (R P : List Int) (bad : Nat) (ht : TabsK w) (hx : Sx w) (h7 : 7 ≤ w.heap.size) (h : s.size ≤ 1024) (hd : dcGo s 1 true s.size (bg s 1).2 [] [] 0 = (none, R, P, bad)) :
    Calls Tryz.prog 12 #[.string s, .agg #[.bool f.i, .bool f.m, .bool f.s, .bool f.u]] w fun e w' => PrsP w (patR R P s.size f) e w' := by
  have hI : (s.size : Int) ≤ (1024 : Int) := by omega
  have hs2 : s.size ≤ 1099511627776 := by omega
  have HT := hid ht
  have HD := hid hd
  have HG := hid (fun (cd bd : Int) (ar ap : Option Addr) (cr cp : Nat) => show Px.Good ⟨R, P ++ [(s.size : Int)], s, cd, bd, ar, cr, ap, cp⟩ from by
    have hb := (bg_in s 1 (by decide)).2.2
    obtain ⟨R2, P2, e1, e2, e3⟩ := dc_ok s s.size (bg s 1).2 [] [] 0 hb (by omega) (by rw [hd])
    rw [hd, List.nil_append] at e1 e2
    simp only at e1 e2
    subst e1
    subst e2
    exact seg_good h hb e3 cd bd ar ap cr cp)
  have HX := hid hx
  have H7 := hid h7
  obtain ⟨A, hA⟩ : ∃ A, A = patR R P s.size f := ⟨_, rfl⟩
  have HA := hid hA.symm
  rw [← hA]
  clear ht hd h hx h7 hA
  have B := hid (begin12 w #[.bool f.i, .bool f.m, .bool f.s, .bool f.u])
  go_enter Tryz.func12, Tryz.ntmps12
  go_upto_region 1 with fail
  unfold zPat at B
  generalize (((w.alloc (.cells #[.bool f.i, .bool f.m, .bool f.s, .bool f.u] 38)).alloc (.cells #[.int .i64 0, .slice none 0 0, .bool false, .int .i64 0, .int .i64 0, .bool false, .int .i64 0, .string ⟨#[]⟩, .slice none 0 0, .slice none 0 0] 31)).alloc (.cells #[.int .i64 0, .int .i64 0] 34)) = w1 at *
  obtain ⟨B0, B1, B2, T⟩ := B.out
  clear B
  obtain ⟨q, hq⟩ : ∃ q, q = w.heap.size := ⟨_, rfl⟩
  obtain ⟨p, hp⟩ : ∃ p, p = w.heap.size + 1 := ⟨_, rfl⟩
  obtain ⟨r, hr⟩ : ∃ r, r = w.heap.size + 1 + 1 := ⟨_, rfl⟩
  have HQ := hid (show w.heap.size ≤ q ∧ q < p ∧ p < r from by omega)
  rw [← hr] at B2 ⊢
  rw [← hp] at B1 ⊢
  rw [← hq] at B0 ⊢
  clear hq hp hr
  have KD := hid (decode_any s 1 true w1 (HT.out.new T) hs2 (by decide))
  rw [bg_one] at KD
  have BB := hid (And.intro B0 (And.intro B1 B2))
  have TT := hid T
  clear B0 B1 B2 T
  go_wp2_with fail
  refine KD.out.mono ?_
  rintro e w2 hR
  obtain ⟨v1, v2, rfl, ow1, ow2⟩ : ∃ v1 v2, e = .returned (.tuple #[.agg #[.int .i64 1, v1, v2, .int .i64 bad], .agg #[.int .i64 0, .int .i64 0]]) ∧ OwIK w1 w2 v1 R ∧ OwIK w1 w2 v2 (P ++ [(s.size : Int)]) := by
    rcases hR with ⟨j, hj, hb⟩ | ⟨hj, hg⟩
    · rw [HD.out] at hj
      cases hj
    · rw [HD.out] at hg
      obtain ⟨v1, v2, h1, h2, h3⟩ := hg.ex
      exact ⟨v1, v2, h1, h2, h3⟩
  clear hR KD
  obtain ⟨a1, c1, hv1⟩ := own_shape ow1.own
  obtain ⟨a2, c2, hv2⟩ := own_shape ow2.own
  subst hv1
  subst hv2
  obtain ⟨n1, hn1⟩ : ∃ n, n = R.length := ⟨_, rfl⟩
  obtain ⟨n2, hn2⟩ : ∃ n, n = (P ++ [(s.size : Int)]).length := ⟨_, rfl⟩
  rw [← hn1] at ow1 ⊢
  rw [← hn2] at ow2 ⊢
  have HN1 := hid hn1
  have HN2 := hid hn2
  clear hn1 hn2
  have t2 := ow1.touch
  have O1 := hid ow1
  have O2 := hid ow2
  have B0 := hid ((t2.block _ (lt_of_block BB.out.1) id).trans BB.out.1)
  have B1 := hid ((t2.block _ (lt_of_block BB.out.2.1) id).trans BB.out.2.1)
  have B2 := hid ((t2.block _ (lt_of_block BB.out.2.2) id).trans BB.out.2.2)
  have T2 := hid (TT.out.trans t2 (fun _ _ e => e))
  have HW1 := hid (show w.heap.size ≤ w1.heap.size from TT.out.size)
  clear t2 TT BB ow1 ow2
  go_upto_region 6 with fail
  have TA := hid (((Touch.refl (fun _ => False) w2).alloc (.cells #[.int .i64 1, .slice a1 n1 c1, .slice a2 n2 c2, .int .i64 (bad : Nat)] 67)).alloc (.cells #[.int .i64 0, .int .i64 0] 34))
  have BX := hid (show ((w2.alloc (.cells #[.int .i64 1, .slice a1 n1 c1, .slice a2 n2 c2, .int .i64 (bad : Nat)] 67)).alloc (.cells #[.int .i64 0, .int .i64 0] 34)).heap[w2.heap.size]? = some (.cells #[.int .i64 1, .slice a1 n1 c1, .slice a2 n2 c2, .int .i64 (bad : Nat)] 67 (0, 0)) from by
    have T3 := (Touch.refl (fun _ => False) (w2.alloc (.cells #[.int .i64 1, .slice a1 n1 c1, .slice a2 n2 c2, .int .i64 (bad : Nat)] 67))).alloc (.cells #[.int .i64 0, .int .i64 0] 34)
    rw [T3.block _ (by simp) id]
    exact block_new w2 _ 67)
  generalize (w2.alloc (.cells #[.int .i64 1, .slice a1 n1 c1, .slice a2 n2 c2, .int .i64 (bad : Nat)] 67)).alloc (.cells #[.int .i64 0, .int .i64 0] 34) = w3 at *
  generalize w2.heap.size = x at *
  have T3 := hid (T2.out.trans TA.out (fun _ _ e => e))
  replace B0 := hid ((TA.out.block q (lt_of_block B0.out) id).trans B0.out)
  replace B1 := hid ((TA.out.block p (lt_of_block B1.out) id).trans B1.out)
  replace B2 := hid ((TA.out.block r (lt_of_block B2.out) id).trans B2.out)
  go_upto_region 7 with (first | refine wpList_load_row rfl 67 _ rfl x rfl 67 _ (0, 0) _ BX.out Tryz.underlying67 rfl info67r ?_ | refine wpList_load_row rfl 38 _ rfl q rfl 38 _ (0, 0) _ B0.out Tryz.underlying38 rfl info38 ?_ | fail)
  have HP := hid (begin_ps w1 w3 s f R (P ++ [(s.size : Int)]) a1 a2 n1 c1 n2 c2 bad (O1.out.still TA.out) (O2.out.still TA.out) HN1.out HN2.out (HX.out.new T3.out) (Nat.le_trans H7.out HW1.out))
  clear O1 O2 HN1 HN2 BX TA HD
  generalize (w3.alloc (.cells #[.string ⟨#[]⟩] 9)).alloc (.cells #[.int .i64 1, .slice a1 n1 c1, .slice a2 n2 c2, .int .i64 bad, .string s, .int .i64 0, .bool f.i, .bool f.m, .bool f.s, .bool f.u, .slice (some ⟨w3.heap.size, 0, none⟩) 1 1, .int .i64 0] 74) = w5 at *
  have TB := HP.out.2
  have HLT := hid (show p < w3.heap.size ∧ r < w3.heap.size from ⟨lt_of_block B1.out, lt_of_block B2.out⟩)
  have HS3 := hid (show w.heap.size ≤ w3.heap.size from T3.out.size)
  generalize w3.heap.size = b at *
  have KP := hid (pattern_any (b + 1) _ f _ _ w5 HP.out.1 (HG.out _ _ _ _ _ _) rfl)
  replace B1 := hid ((TB.block p (lt_of_block B1.out) id).trans B1.out)
  replace B2 := hid ((TB.block r (lt_of_block B2.out) id).trans B2.out)
  have T5 := hid (T3.out.trans TB (fun _ _ e => e))
  have HLW := hid (show b < w5.heap.size ∧ w.heap.size ≤ w5.heap.size from ⟨Nat.lt_of_succ_lt HP.out.1.lt, T5.out.size⟩)
  unfold patR at HA
  clear TB T3 HP B0 HG
  generalize patF R tableN f = M at *
  match M with
  | .error (c, j) =>
    unfold PatP zPat at KP
    simp only at KP HA
    go_wp2_with fail
    refine KP.out.mono ?_
    rintro e w6 ⟨rfl, t6⟩
    have NB : ∀ g, g = b + 1 ∨ (Value.slice (some ⟨b, 0, none⟩) 1 1).ownBlock = some g → b ≤ g := fun g e => by
      rcases e with e | e
      · omega
      · cases e
        exact Nat.le_refl _
    replace B1 := hid ((t6.block p (lt_of_block B1.out) (fun e => by have := NB _ e; have := HLT.out; omega)).trans B1.out)
    replace B2 := hid ((t6.block r (lt_of_block B2.out) (fun e => by have := NB _ e; have := HLT.out; omega)).trans B2.out)
    have T6 := hid (T5.out.trans t6 (fun i hi e => by have := NB _ e; have := HS3.out; omega))
    clear t6 NB KP T5
    obtain ⟨y, hy⟩ : ∃ y, y = lkR (P ++ [(s.size : Int)]) j := ⟨_, rfl⟩
    rw [← hy] at HA ⊢
    clear hy
    obtain ⟨R1, R2, R3, R4⟩ := two_rows B1.out B2.out (by have := HQ.out; omega) #[.int .i64 0, .slice none 0 0, .bool false, .int .i64 0, .int .i64 0, .bool false, .int .i64 0, .string ⟨#[]⟩, .slice none 0 0, .slice none 0 0] #[.int .i64 (c : Nat), .int .i64 y]
    have TT := hid (T6.out.trans R4 (fun i hi e => by have := HQ.out; omega))
    replace R1 := hid R1
    replace R2 := hid R2
    replace R3 := hid R3
    clear R4 T6
    go_wp2_with (first | refine wpList_store_row rfl 31 _ _ rfl p _ rfl rfl 31 _ B1.out info31 (by rfl) zPat_one ?_ | refine wpList_store_row rfl 34 _ _ rfl r _ rfl rfl 34 _ R1.out info34 (by rfl) (two_one34 _ _) ?_ | fail)
    rw [← HA.out]
    exact bodyPost_ret (results_cc rfl _ _ p r 31 34 _ _ (0, 0) (0, 0) _ _ rfl R2.out Tryz.underlying31 rfl info31 rfl R3.out Tryz.underlying34 rfl info34) rfl ⟨rfl, TT.out⟩
  | .ok (nd, ns) =>
    unfold PatP at KP
    simp only at KP HA
    go_wp2_with fail
    refine KP.out.mono ?_
    rintro e w6 ⟨c, vn', rfl, ht6, hs6, hn6, t6⟩
    obtain ⟨ck, sa, sn, sc, fo, mi, ma, la, ca, nm, ka, kn, kc⟩ := c
    obtain ⟨an, cn, hvn⟩ := own_shape hs6
    subst hvn
    obtain ⟨nn, hnn⟩ : ∃ n, n = ns.length := ⟨_, rfl⟩
    rw [← hnn] at hs6 hn6 ⊢
    have HNN := hid hnn
    clear hnn
    have NB : ∀ g, g = b + 1 ∨ (Value.slice (some ⟨b, 0, none⟩) 1 1).ownBlock = some g → b ≤ g := fun g e => by
      rcases e with e | e
      · omega
      · cases e
        exact Nat.le_refl _
    replace B1 := hid ((t6.block p (lt_of_block B1.out) (fun e => by have := NB _ e; have := HLT.out; omega)).trans B1.out)
    replace B2 := hid ((t6.block r (lt_of_block B2.out) (fun e => by have := NB _ e; have := HLT.out; omega)).trans B2.out)
    have T6 := hid (T5.out.trans t6 (fun i hi e => by have := NB _ e; have := HS3.out; omega))
    have HNB := hid (show ∀ g, (Value.slice an nn cn).ownBlock = some g → b ≤ g from fun g e => by
      rcases hn6 with e2 | ⟨g2, e2, h2⟩
      · exact NB g (.inr (by rw [← e2]; exact e))
      · rw [e2] at e
        cases e
        have := HLW.out
        omega)
    have HT6 := hid ht6
    have HS6 := hid hs6
    clear t6 NB KP T5 ht6 hs6 hn6
    unfold Cel.arr
    obtain ⟨R1, R2, R3, R4⟩ := two_rows B1.out B2.out (by have := HQ.out; omega) #[.int .i64 ck, .slice sa sn sc, .bool fo, .int .i64 mi, .int .i64 ma, .bool la, .int .i64 ca, .string nm, .slice ka kn kc, .slice an nn cn] #[.int .i64 0, .int .i64 0]
    have R5 := hid R4
    have TT := hid (T6.out.trans R4 (fun i hi e => by have := HQ.out; omega))
    replace R1 := hid R1
    replace R2 := hid R2
    replace R3 := hid R3
    clear R4 T6
    go_wp2_with (first | refine wpList_store_row rfl 31 _ _ rfl p _ rfl rfl 31 _ B1.out info31 (by rfl) (by simp [Value.oneCell']) ?_ | refine wpList_store_row rfl 34 _ _ rfl r _ rfl rfl 34 _ R1.out info34 (by rfl) (two_one34 _ _) ?_ | fail)
    rw [← HA.out]
    refine bodyPost_ret (results_cc rfl _ _ p r 31 34 _ _ (0, 0) (0, 0) _ _ rfl R2.out Tryz.underlying31 rfl info31 rfl R3.out Tryz.underlying34 rfl info34) rfl ?_
    refine ⟨⟨ck, sa, sn, sc, fo, mi, ma, la, ca, nm, ka, kn, kc⟩, an, nn, cn, rfl, (HT6.out.kept R5.out (fun g hg s => ?_)).more (fun g hg => ⟨?_, Nat.lt_of_lt_of_le hg.2 R5.out.size⟩), ?_, fun g e => ?_, TT.out⟩
    · have := HLT.out
      have := HLW.out
      omega
    · have := HLW.out
      omega
    · exact rowKept HS6.out R5.out (fun g e s => by have := HNB.out g e; have := HLT.out; omega)
    · have := HNB.out g e
      have := HS3.out
      omega
/-- Parse of any text. -/
theorem parse_any (s : ByteArray) (f : Fl) (w : World) (ht : TabsK w) (hx : Sx w) (h7 : 7 ≤ w.heap.size) :
    Calls Tryz.prog 12 #[.string s, .agg #[.bool f.i, .bool f.m, .bool f.s, .bool f.u]] w fun e w' => PrsP w (prsR s f) e w' := by
  unfold prsR
  by_cases h : 1024 < s.size
  · rw [if_pos h]
    exact parse_long s f w h
  · rw [if_neg h]
    cases hd : dcGo s 1 true s.size (bg s 1).2 [] [] 0 with
    | mk o rest =>
      obtain ⟨R, P, bad⟩ := rest
      cases o with
      | some i => exact parse_bad s f w i ht (by omega) (by rw [hd])
      | none => exact parse_good s f w R P bad ht hx h7 (by omega) hd
end Go.Proofs.YtdhhcefmmojcmaaGreatDoor
