/- A parser of JSON: whole and Parse, of an object of texts without blanks; conditions: as told. -/
import Derived.Test.YtabhlhgfacpohaaDoorOv
namespace Go.Proofs.YtabhlhgfacpohaaDoor
open Go.RowKit
open Go.Lib

set_option maxRecDepth 100000 in
set_option maxHeartbeats 4000000 in
theorem whole_obj (b : Nat) (s : ByteArray) (l : List (Bs × Bs)) (w : World) (h : Ps w b s 0 0) (hs : s.size ≤ 1048576)
    (htb : Tabs w) (K : ∀ w', Ps w' b s 0 0 → Tabs w' → Calls Tryd.prog 32 #[.pointer (some ⟨b, 0, none⟩)] w' fun e w'' => ObjR s b 0 s.size l w' e w'') :
    Calls Tryd.prog 19 #[.pointer (some ⟨b, 0, none⟩)] w fun e w' => ∃ a2 n2 c2 a3 n3 c3, e = .returned (.tuple #[.agg #[.int .i64 6, .string ⟨#[]⟩, .slice a2 n2 c2, .slice a3 n3 c3], fV 0 0]) ∧ OV w w' (.slice a2 n2 c2) (.slice a3 n3 c3) (keysL l) (textsL l) ∧ Touch (fun k => k = b) w w' := by
  have KL := hid (fun w' (hp : Ps w' b s s.size 0) => look_any b s s.size 0 w' hp hs (Nat.le_refl _))
  rw [show lk s s.size = -1 from by rw [lk_by, if_neg (Nat.lt_irrefl _)]] at KL
  have hmf : ∀ (fn : Fn) (first cap : Array Value) (w : World), (Instr.makeFunc fn first cap).run Tryd.prog w = .ok (.func fn first cap) w := fun _ _ _ _ => rfl
  have B := hid (begin2 h.lt)
  have H0 := hid (h.new B.out.2.2.1)
  have KH := hid K
  have HTB := hid (htb.new B.out.2.2.1)
  clear K h htb
  skip
  go_enter_defers Tryd.func19, Tryd.ntmps19
  go_upto_region 2 with fail
  generalize (w.alloc (.cells #[.int .i64 0, .string ⟨#[]⟩, .slice none 0 0, .slice none 0 0] 26)).alloc (.cells #[.int .i64 0, .int .i64 0] 29) = w1 at *
  obtain ⟨BA, BB, T1, L⟩ := B.out
  clear B
  replace BA := hid BA
  replace BB := hid BB
  replace T1 := hid T1
  obtain ⟨p, hp⟩ : ∃ p, p = w.heap.size := ⟨_, rfl⟩
  obtain ⟨q, hq⟩ : ∃ q, q = w.heap.size + 1 := ⟨_, rfl⟩
  have HL := hid (show b < p ∧ w.heap.size ≤ p ∧ p < q from by rw [hp, hq]; exact L)
  clear L
  rw [← hq] at BB ⊢
  rw [← hp] at BA ⊢
  clear hp hq
  go_wp2_with fail
  refine (KH.out w1 H0.out HTB.out).mono ?_
  rintro e w2 ⟨a2, n2, c2, a3, n3, c3, rfl, hp2, hov, tt⟩
  have OV2 := hid hov
  have HPQ := hid (show p < w1.heap.size ∧ q < w1.heap.size ∧ b < w1.heap.size from ⟨lt_of_block BA.out, lt_of_block BB.out, H0.out.lt⟩)
  have TS1 := hid T1.out.size
  clear hov
  have P2 := hid ((tt.block p (lt_of_block BA.out) (fun e => by have := HL.out; omega)).trans BA.out)
  have Q2 := hid ((tt.block q (lt_of_block BB.out) (fun e => by have := HL.out; omega)).trans BB.out)
  have T2 := hid (Touch.trans (S := fun k => k = b) (T1.out.mono (fun _ _ e => e.elim)) tt (fun _ _ e => e))
  have H2 := hid hp2
  clear tt KH H0 BA BB T1
  have p2 := P2.out
  have ca0 : w2.cell? ⟨p, 0, none⟩ = some (.int .i64 0) := by simp [World.cell?, p2]
  have ca1 : w2.cell? ⟨p, 1, none⟩ = some (.string ⟨#[]⟩) := by simp [World.cell?, p2]
  have ca2 : w2.cell? ⟨p, 2, none⟩ = some (.slice none 0 0) := by simp [World.cell?, p2]
  have ca3 : w2.cell? ⟨p, 3, none⟩ = some (.slice none 0 0) := by simp [World.cell?, p2]
  have e0 : w2.frozen? ⟨p, 0, none⟩ = false := by simp [World.frozen?, p2]
  have e1 : w2.frozen? ⟨p, 1, none⟩ = false := by simp [World.frozen?, p2]
  have e2 : w2.frozen? ⟨p, 2, none⟩ = false := by simp [World.frozen?, p2]
  have e3 : w2.frozen? ⟨p, 3, none⟩ = false := by simp [World.frozen?, p2]
  clear p2 hp2
  go_upto_region 3 with fail
  have P3 := hid (jfour_set P2.out (.int .i64 6) (.string ⟨#[]⟩) (.slice a2 n2 c2) (.slice a3 n3 c3))
  have H3 := hid (H2.out.four (q := p) (by have := HL.out; omega) (.int .i64 6) (.string ⟨#[]⟩) (.slice a2 n2 c2) (.slice a3 n3 c3))
  have T3 := hid (jfour_touch T2.out (q := p) (by have := HL.out; omega) (.int .i64 6) (.string ⟨#[]⟩) (.slice a2 n2 c2) (.slice a3 n3 c3))
  have Q3 := hid (show ((((w2.setCell ⟨p, 0, none⟩ (.int .i64 6)).setCell ⟨p, 1, none⟩ (.string ⟨#[]⟩)).setCell ⟨p, 2, none⟩ (.slice a2 n2 c2)).setCell ⟨p, 3, none⟩ (.slice a3 n3 c3)).heap[q]? = some (.cells #[.int .i64 0, .int .i64 0] 29 (0, 0)) from by
    have n6 : q ≠ p := by have := HL.out; omega
    rw [Below.heap_setCell _ _ _ _ n6, Below.heap_setCell _ _ _ _ n6, Below.heap_setCell _ _ _ _ n6, Below.heap_setCell _ _ _ _ n6]
    exact Q2.out)
  have OV3 := hid (OV2.out.kept (touch_four (S := fun k => k = p) (g := p) (Touch.refl _ w2) (fun _ => rfl) 0 1 2 3 (.int .i64 6) (.string ⟨#[]⟩) (.slice a2 n2 c2) (.slice a3 n3 c3)) (fun k e => by rw [e]; exact HPQ.out.1))
  clear OV2
  generalize (((w2.setCell ⟨p, 0, none⟩ (.int .i64 6)).setCell ⟨p, 1, none⟩ (.string ⟨#[]⟩)).setCell ⟨p, 2, none⟩ (.slice a2 n2 c2)).setCell ⟨p, 3, none⟩ (.slice a3 n3 c3) = w3 at *
  clear ca0 ca1 ca2 ca3 e0 e1 e2 e3 P2 H2 T2 Q2
  go_wp2_with fail
  refine (KL.out w3 H3.out).mono ?_
  rintro e w4 ⟨rfl, tt⟩
  have P4 := hid ((tt.block p (lt_of_block P3.out) id).trans P3.out)
  have Q4 := hid ((tt.block q (lt_of_block Q3.out) id).trans Q3.out)
  have T4 := hid (T3.out.trans tt (fun _ _ e => e.elim))
  have OV4 := hid (OV3.out.kept tt (fun _ e => e.elim))
  clear tt KL P3 Q3 T3 H3 OV3
  have p4 := P4.out
  have q4 := Q4.out
  have ca0 : w4.cell? ⟨p, 0, none⟩ = some (.int .i64 6) := by simp [World.cell?, p4]
  have ca1 : w4.cell? ⟨p, 1, none⟩ = some (.string ⟨#[]⟩) := by simp [World.cell?, p4]
  have ca2 : w4.cell? ⟨p, 2, none⟩ = some (.slice a2 n2 c2) := by simp [World.cell?, p4]
  have ca3 : w4.cell? ⟨p, 3, none⟩ = some (.slice a3 n3 c3) := by simp [World.cell?, p4]
  have e0 : w4.frozen? ⟨p, 0, none⟩ = false := by simp [World.frozen?, p4]
  have e1 : w4.frozen? ⟨p, 1, none⟩ = false := by simp [World.frozen?, p4]
  have e2 : w4.frozen? ⟨p, 2, none⟩ = false := by simp [World.frozen?, p4]
  have e3 : w4.frozen? ⟨p, 3, none⟩ = false := by simp [World.frozen?, p4]
  have g0 : w4.cell? ⟨q, 0, none⟩ = some (.int .i64 0) := by simp [World.cell?, q4]
  have g1 : w4.cell? ⟨q, 1, none⟩ = some (.int .i64 0) := by simp [World.cell?, q4]
  have f0 : w4.frozen? ⟨q, 0, none⟩ = false := by simp [World.frozen?, q4]
  have f1 : w4.frozen? ⟨q, 1, none⟩ = false := by simp [World.frozen?, q4]
  clear p4 q4
  have n5 : ¬ p = q := by have := HL.out; omega
  have n6 : ¬ q = p := by have := HL.out; omega
  go_wp2
  clear ca0 ca1 ca2 ca3 e0 e1 e2 e3 g0 g1 f0 f1
  have P5 := jfour_set P4.out (.int .i64 6) (.string ⟨#[]⟩) (.slice a2 n2 c2) (.slice a3 n3 c3)
  have T5 := jfour_touch T4.out (q := p) (by have := HL.out; omega) (.int .i64 6) (.string ⟨#[]⟩) (.slice a2 n2 c2) (.slice a3 n3 c3)
  have Q5 : ((((w4.setCell ⟨p, 0, none⟩ (.int .i64 6)).setCell ⟨p, 1, none⟩ (.string ⟨#[]⟩)).setCell ⟨p, 2, none⟩ (.slice a2 n2 c2)).setCell ⟨p, 3, none⟩ (.slice a3 n3 c3)).heap[q]? = some (.cells #[.int .i64 0, .int .i64 0] 29 (0, 0)) := by
    rw [Below.heap_setCell _ _ _ _ n6, Below.heap_setCell _ _ _ _ n6, Below.heap_setCell _ _ _ _ n6, Below.heap_setCell _ _ _ _ n6]
    exact Q4.out
  have OV5 := OV4.out.kept (touch_four (S := fun k => k = p) (g := p) (Touch.refl _ w4) (fun _ => rfl) 0 1 2 3 (.int .i64 6) (.string ⟨#[]⟩) (.slice a2 n2 c2) (.slice a3 n3 c3)) (fun k e => by rw [e]; exact HPQ.out.1)
  generalize (((w4.setCell ⟨p, 0, none⟩ (.int .i64 6)).setCell ⟨p, 1, none⟩ (.string ⟨#[]⟩)).setCell ⟨p, 2, none⟩ (.slice a2 n2 c2)).setCell ⟨p, 3, none⟩ (.slice a3 n3 c3) = w5 at *
  have P6 : ((w5.setCell ⟨q, 0, none⟩ (.int .i64 0)).setCell ⟨q, 1, none⟩ (.int .i64 0)).heap[p]? = some (.cells #[.int .i64 6, .string ⟨#[]⟩, .slice a2 n2 c2, .slice a3 n3 c3] 26 (0, 0)) := by
    rw [Below.heap_setCell _ _ _ _ n5, Below.heap_setCell _ _ _ _ n5]
    exact P5
  have Q6 := jtwo_set Q5 (.int .i64 0) (.int .i64 0)
  have T6 := (T5.setCell (p := ⟨q, 0, none⟩) (fun h => absurd h (by have := HL.out; dsimp only; omega)) (.int .i64 0)).setCell (p := ⟨q, 1, none⟩) (fun h => absurd h (by have := HL.out; dsimp only; omega)) (.int .i64 0)
  have OV6 := OV5.kept ((Touch.setCell (S := fun k => k = q) (Touch.refl _ w5) (p := ⟨q, 0, none⟩) (fun _ => rfl) (.int .i64 0)).setCell (p := ⟨q, 1, none⟩) (fun _ => rfl) (.int .i64 0)) (fun k e => by rw [e]; exact HPQ.out.2.1)
  generalize (w5.setCell ⟨q, 0, none⟩ (.int .i64 0)).setCell ⟨q, 1, none⟩ (.int .i64 0) = w6 at *
  refine leaves_cons (f := 31) (args := #[.pointer (some ⟨p, 0, none⟩), .pointer (some ⟨q, 0, none⟩)]) (by simp) (by simp [go_sem]) ?_
  refine (catch_idle ⟨p, 0, none⟩ ⟨q, 0, none⟩ w6).mono ?_
  rintro e u' w9 ⟨rfl, rfl, rfl⟩
  refine ⟨_, results_cc rfl _ _ p q 26 29 _ _ (0, 0) (0, 0) _ _ rfl P6 Tryd.underlying26 rfl (by kernel_rfl) rfl Q6 Tryd.underlying29 rfl (by kernel_rfl), ?_⟩
  exact ⟨a2, n2, c2, a3, n3, c3, rfl, OV6.back TS1.out, T6⟩
set_option maxRecDepth 100000 in
set_option maxHeartbeats 4000000 in
theorem parse_obj (s : ByteArray) (l : List (Bs × Bs)) (f : Nat) (w : World) (ht : Tabs w) (hs : s.size ≤ 1048576) (hl : l.length ≤ 900) (hB : Braces s 0 l f) (hf : f + 1 = s.size)
    (KD : ∀ w, Tabs w → Calls Tryd.prog 13 #[.string (xs s), .int .i64 1, .bool true] w fun e w' => ∃ a1 n1 c1 a2 n2 c2, e = .returned (.tuple #[.agg #[.int .i64 1, .slice a1 n1 c1, .slice a2 n2 c2, .int .i64 0], .agg #[.int .i64 0, .int .i64 0]]) ∧ Touch (fun _ => False) w w') :
    Calls Tryd.prog 9 #[.string s] w fun e w' => ∃ a2 n2 c2 a3 n3 c3, e = .returned (.tuple #[.agg #[.int .i64 6, .string ⟨#[]⟩, .slice a2 n2 c2, .slice a3 n3 c3], .agg #[.int .i64 0, .int .i64 0]]) ∧ OV w w' (.slice a2 n2 c2) (.slice a3 n3 c3) (keysL l) (textsL l) ∧ Touch (fun _ => False) w w' := by
  have hsI : ¬ (1048576 : Int) < (s.size : Int) := by omega
  have K1 := hid KD
  have K2 := hid (fun b w' (hp : Ps w' b s 0 0) (hb2 : 2 ≤ b) (ht' : Tabs w') => whole_obj b s l w' hp hs ht' (fun w1 hp1 ht1 => by
    have := value_obj b s 0 0 f l w1 hp1 hs (Nat.zero_le _) hb2 ht1 (by decide) hl hB (by omega) (by rw [hf, lk_by, if_neg (Nat.lt_irrefl _)]; unfold noBlank; decide)
    rw [hf] at this
    exact this))
  unfold fV at K2
  clear KD hB hf
  unfold xs at K1
  have B := hid (begin2 (w := w) (b := 0) (by have := ht.two; omega))
  have HT := hid (ht.new B.out.2.2.1)
  clear ht
  go_enter Tryd.func9, Tryd.ntmps9
  go_upto_region 1 with fail
  generalize (w.alloc (.cells #[.int .i64 0, .string ⟨#[]⟩, .slice none 0 0, .slice none 0 0] 26)).alloc (.cells #[.int .i64 0, .int .i64 0] 29) = w1 at *
  obtain ⟨BA, BB, T1, L⟩ := B.out
  clear B
  replace BA := hid BA
  replace BB := hid BB
  replace T1 := hid T1
  obtain ⟨p, hp⟩ : ∃ p, p = w.heap.size := ⟨_, rfl⟩
  obtain ⟨q, hq⟩ : ∃ q, q = w.heap.size + 1 := ⟨_, rfl⟩
  have HL := hid (show w.heap.size ≤ p ∧ w.heap.size ≤ q ∧ p < q from by rw [hp, hq]; exact ⟨Nat.le_refl _, by omega, by omega⟩)
  clear L
  rw [← hq] at BB ⊢
  rw [← hp] at BA ⊢
  clear hp hq
  go_wp2_with fail
  refine (K1.out w1 HT.out).mono ?_
  rintro e w2 ⟨b1, m1, d1, b2, m2, d2, rfl, tt⟩
  have P2 := hid ((tt.block p (lt_of_block BA.out) id).trans BA.out)
  have Q2 := hid ((tt.block q (lt_of_block BB.out) id).trans BB.out)
  have T2 := hid (T1.out.trans tt (fun _ _ e => e))
  have HT2 := hid (HT.out.new tt)
  clear tt K1 BA BB T1 HT
  go_upto_region 4 with fail
  have TA := (Touch.refl (fun _ => False) w2).alloc (.cells #[.int .i64 1, .slice b1 m1 d1, .slice b2 m2 d2, .int .i64 0] 37) |>.alloc (.cells #[.int .i64 0, .int .i64 0] 29)
  have BR := hid (jtwo_new (w := w2.alloc (.cells #[.int .i64 1, .slice b1 m1 d1, .slice b2 m2 d2, .int .i64 0] 37)) (.int .i64 0) (.int .i64 0) 29)
  rw [size_alloc1] at BR
  have HT3 := hid (HT2.out.new TA)
  have P3 := hid ((TA.block p (lt_of_block P2.out) id).trans P2.out)
  have Q3 := hid ((TA.block q (lt_of_block Q2.out) id).trans Q2.out)
  have T3 := hid (T2.out.trans TA (fun _ _ e => e))
  clear TA P2 Q2 T2
  generalize (w2.alloc (.cells #[.int .i64 1, .slice b1 m1 d1, .slice b2 m2 d2, .int .i64 0] 37)).alloc (.cells #[.int .i64 0, .int .i64 0] 29) = w3 at *
  generalize w2.heap.size + 1 = r at *
  obtain ⟨⟨r0, r1⟩, _⟩ := cells2 BR.out
  clear BR
  go_upto_region 7 with fail
  have TA := (Touch.refl (fun _ => False) w3).alloc (.cells #[.string s, .int .i64 0, .int .i64 0] 51)
  have H4 := hid (show Ps (w3.alloc (.cells #[.string s, .int .i64 0, .int .i64 0] 51)) w3.heap.size s 0 0 from by
    show (w3.heap.push _)[_]? = _
    simp)
  have HT4 := hid (HT3.out.new TA)
  have HB2 := hid HT3.out.two
  have P4 := hid ((TA.block p (lt_of_block P3.out) id).trans P3.out)
  have Q4 := hid ((TA.block q (lt_of_block Q3.out) id).trans Q3.out)
  have T4 := hid (T3.out.trans TA (fun _ _ e => e))
  have HB := hid (show p < w3.heap.size ∧ q < w3.heap.size ∧ w.heap.size ≤ w3.heap.size from ⟨lt_of_block P3.out, lt_of_block Q3.out, T3.out.size⟩)
  clear TA P3 Q3 T3 r0 r1
  generalize w3.alloc (.cells #[.string s, .int .i64 0, .int .i64 0] 51) = w4 at *
  generalize w3.heap.size = b at *
  go_wp2_with fail
  refine (K2.out b w4 H4.out HB2.out HT4.out).mono ?_
  rintro e w5 ⟨a2', n2, c2, a3', n3, c3, rfl, hov, tt⟩
  have OV5 := hid hov
  have HPQ := hid (show p < w4.heap.size ∧ q < w4.heap.size from ⟨lt_of_block P4.out, lt_of_block Q4.out⟩)
  have TS4 := hid T4.out.size
  clear hov
  have P5 := hid ((tt.block p (lt_of_block P4.out) (fun e => by have := HB.out; omega)).trans P4.out)
  have Q5 := hid ((tt.block q (lt_of_block Q4.out) (fun e => by have := HB.out; omega)).trans Q4.out)
  have T5 := hid (Touch.trans (S := fun _ => False) T4.out tt (fun i hi e => by have := HB.out; omega))
  clear tt K2 P4 Q4 T4 H4
  obtain ⟨⟨a0, a1, a2, a3⟩, ⟨e0, e1, e2, e3⟩⟩ := cells4 P5.out
  obtain ⟨⟨g0, g1⟩, ⟨f0, f1⟩⟩ := cells2 Q5.out
  have n5 : ¬ p = q := by have := HL.out; omega
  have n6 : ¬ q = p := by have := HL.out; omega
  go_wp2
  have OVF := OV5.out.kept (((touch_four (S := fun k => k = p ∨ k = q) (g := p) (Touch.refl _ w5) (fun _ => .inl rfl) 0 1 2 3 (.int .i64 6) (.string ⟨#[]⟩) (.slice a2' n2 c2) (.slice a3' n3 c3)).setCell (p := ⟨q, 0, none⟩) (fun _ => .inr rfl) (.int .i64 0)).setCell (p := ⟨q, 1, none⟩) (fun _ => .inr rfl) (.int .i64 0)) (fun k e => by rcases e with e | e; rw [e]; exact HPQ.out.1; rw [e]; exact HPQ.out.2)
  have R := both_set P5.out Q5.out n5 (.int .i64 6) (.string ⟨#[]⟩) (.slice a2' n2 c2) (.slice a3' n3 c3) (.int .i64 0) (.int .i64 0)
  have T := both_touch T5.out HL.out.1 HL.out.2.1 (.int .i64 6) (.string ⟨#[]⟩) (.slice a2' n2 c2) (.slice a3' n3 c3) (.int .i64 0) (.int .i64 0)
  exact bodyPost_ret (results_cc rfl _ _ p q 26 29 _ _ (0, 0) (0, 0) _ _ rfl R.1 Tryd.underlying26 rfl (by kernel_rfl) rfl R.2 Tryd.underlying29 rfl (by kernel_rfl)) rfl ⟨a2', n2, c2, a3', n3, c3, rfl, OVF.back TS4.out, T⟩

end Go.Proofs.YtabhlhgfacpohaaDoor
