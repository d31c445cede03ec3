/- Texts of this proof, one behind the other: what each says stands ahead of it. -/
import Derived.Test.YtjpmjcadnnglnaaDoorM13
/- A parser of JSON: a value that is a text in quotes, and what is above it; conditions: the two tables lie there, the text has at most 1048576 bytes. -/
namespace Go.Proofs.YtjpmjcadnnglnaaDoor
open Go.RowKit
open Go.Lib

/-- What is answered of a text in quotes. -/
def QvR (s : ByteArray) (b d : Nat) (w : World) : Except Nat (Bs × Nat) → Ending → World → Prop
  | .ok (o, u), e, w' => e = .returned (.agg #[.int .i64 4, .string ⟨o.toArray⟩, .slice none 0 0, .slice none 0 0]) ∧ Ps w' b s u d ∧ Touch (fun k => k = b) w w'
  | .error k, e, w' => e = thrown 20 k ∧ Ps w' b s k d ∧ Touch (fun k => k = b) w w'
set_option maxRecDepth 100000 in
set_option maxHeartbeats 4000000 in
theorem bare_quot (b : Nat) (s : ByteArray) (t d : Nat) (w : World) (h : Ps w b s t d) (hs : s.size ≤ 1048576) (ht : t ≤ s.size) (hb2 : 2 ≤ b) (htb : Tabs w) (hn : lk s t = 34) :
    Calls Tryd.prog 45 #[.pointer (some ⟨b, 0, none⟩)] w fun e w' => QvR s b d w (quotE s t) e w' := by
  have T0 := hid ((Touch.refl (fun _ => False) w).alloc (.cells #[.int .i64 0, .string ⟨#[]⟩, .slice none 0 0, .slice none 0 0] 36))
  have H0 := hid (h.new T0.out)
  have B0 := hid (jfour_new (w := w) (.int .i64 0) (.string ⟨#[]⟩) (.slice none 0 0) (.slice none 0 0) 36)
  have HBW := hid h.lt
  have KL := hid (look_any b s t d _ H0.out hs ht)
  have KN := hid (fun w' (hp : Ps w' b s t d) (ht' : Tabs w') => quoted_any b s t d w' hp hb2 ht' hs ht)
  have TB := hid (htb.new T0.out)
  rw [hn] at KL
  clear h htb
  go_enter Tryd.func45, Tryd.ntmps45
  go_wp2_with fail
  refine KL.out.mono ?_
  rintro e w1 ⟨rfl, t1⟩
  have H1 := hid (H0.out.new t1)
  have T1 := hid (T0.out.trans t1 (fun _ _ e => e))
  have TB1 := hid (TB.out.new t1)
  have B1 := hid ((t1.block w.heap.size (lt_of_block B0.out) id).trans B0.out)
  clear t1 KL H0 B0 T0
  obtain ⟨q, hq⟩ : ∃ q, q = w.heap.size := ⟨_, rfl⟩
  rw [← hq] at B1 ⊢
  have HQ := hid (show w.heap.size ≤ q ∧ b < q from ⟨by omega, by have := HBW.out; omega⟩)
  clear hq HBW
  have KN1 := hid (KN.out w1 H1.out TB1.out)
  clear KN TB TB1
  cases hX : quotE s t with
  | error k =>
    rw [hX] at KN1
    unfold QdR thrown at KN1
    have HX := hid hX
    clear hX
    go_wp2_with fail
    refine KN1.out.mono ?_
    rintro e w2 ⟨rfl, hp, tt⟩
    have HE := hid hp
    have TE := hid (Touch.trans (S := fun k => k = b) (T1.out.mono (fun _ _ e => e.elim)) tt (fun _ _ e => e))
    clear hp tt KN1
    go_wp2
    refine ⟨rfl, ?_⟩
    rw [HX.out]
    exact ⟨rfl, HE.out, TE.out⟩
  | ok ou =>
    obtain ⟨o, u⟩ := ou
    rw [hX] at KN1
    unfold QdR at KN1
    have HX := hid hX
    clear hX
    go_wp2_with fail
    refine KN1.out.mono ?_
    rintro e w2 ⟨rfl, hp, tt⟩
    have HE := hid hp
    have TE := hid (Touch.trans (S := fun k => k = b) (T1.out.mono (fun _ _ e => e.elim)) tt (fun _ _ e => e))
    have B2 := hid ((tt.block q (lt_of_block B1.out) (fun e => by have := HQ.out; omega)).trans B1.out)
    clear hp tt KN1 B1 T1 H1
    have b2' := B2.out
    have k0 : w2.cell? ⟨q, 0, none⟩ = some (.int .i64 0) := by simp [World.cell?, b2']
    have k1 : w2.cell? ⟨q, 1, none⟩ = some (.string ⟨#[]⟩) := by simp [World.cell?, b2']
    have k2 : w2.cell? ⟨q, 2, none⟩ = some (.slice none 0 0) := by simp [World.cell?, b2']
    have k3 : w2.cell? ⟨q, 3, none⟩ = some (.slice none 0 0) := by simp [World.cell?, b2']
    have f0 : w2.frozen? ⟨q, 0, none⟩ = false := by simp [World.frozen?, b2']
    have f1 : w2.frozen? ⟨q, 1, none⟩ = false := by simp [World.frozen?, b2']
    have f2 : w2.frozen? ⟨q, 2, none⟩ = false := by simp [World.frozen?, b2']
    have f3 : w2.frozen? ⟨q, 3, none⟩ = false := by simp [World.frozen?, b2']
    clear b2'
    go_wp2
    refine bodyPost_ret (results_c rfl _ _ q 36 _ (0, 0) _ rfl (jfour_set B2.out _ _ _ _) Tryd.underlying36 rfl (by kernel_rfl)) rfl ?_
    rw [HX.out]
    exact ⟨rfl, HE.out.four (by have := HQ.out; omega) _ _ _ _, jfour_touch TE.out HQ.out.1 _ _ _ _⟩
set_option maxRecDepth 100000 in
set_option maxHeartbeats 4000000 in
theorem value_quot (b : Nat) (s : ByteArray) (t d : Nat) (w : World) (h : Ps w b s t d) (hs : s.size ≤ 1048576) (ht : t ≤ s.size) (hb2 : 2 ≤ b) (htb : Tabs w) (hq : lk s t = 34) (hn : ∀ o u, quotE s t = .ok (o, u) → u ≤ s.size ∧ noBlank (lk s u)) :
    Calls Tryd.prog 24 #[.pointer (some ⟨b, 0, none⟩)] w fun e w' => QvR s b d w (quotE s t) e w' := by
  have T0 := hid ((Touch.refl (fun _ => False) w).alloc (.cells #[.int .i64 0, .string ⟨#[]⟩, .slice none 0 0, .slice none 0 0] 36))
  have H0 := hid (h.new T0.out)
  have B0 := hid (jfour_new (w := w) (.int .i64 0) (.string ⟨#[]⟩) (.slice none 0 0) (.slice none 0 0) 36)
  have HBW := hid h.lt
  have KB := hid (fun w' k (hp : Ps w' b s k d) (hk : k ≤ s.size) (hbk : noBlank (lk s k)) => blanks_none b s k d w' hp hs hk hbk)
  have KV := hid (fun w' (hp : Ps w' b s t d) (ht' : Tabs w') => bare_quot b s t d w' hp hs ht hb2 ht' hq)
  have TB := hid (htb.new T0.out)
  have HNB := hid hn
  have HB2 := hid hb2
  have HQ0 := hid (show noBlank (lk s t) from by rw [hq]; unfold noBlank; decide)
  clear h hn htb hb2 hq
  go_enter Tryd.func24, Tryd.ntmps24
  go_wp2_with fail
  generalize w.alloc (.cells #[.int .i64 0, .string ⟨#[]⟩, .slice none 0 0, .slice none 0 0] 36) = w0 at *
  obtain ⟨q, hq⟩ : ∃ q, q = w.heap.size := ⟨_, rfl⟩
  rw [← hq] at B0 ⊢
  have HQ := hid (show w.heap.size ≤ q ∧ b < q from ⟨by omega, by have := HBW.out; omega⟩)
  clear hq HBW
  refine (KB.out _ t H0.out ht HQ0.out).mono ?_
  rintro e w1 ⟨rfl, hp, tt⟩
  have H1 := hid hp
  have T1 := hid (Touch.trans (S := fun k => k = b) (T0.out.mono (fun _ _ e => e.elim)) tt (fun _ _ e => e))
  have B1 := hid ((tt.block q (lt_of_block B0.out) (fun e => by have := HQ.out; omega)).trans B0.out)
  have TB1 := hid (TB.out.kept tt (fun e => by have := HB2.out; omega) (fun e => by have := HB2.out; omega))
  clear hp tt H0 T0 B0 TB
  have KV1 := hid (KV.out w1 H1.out TB1.out)
  clear KV
  cases hX : quotE s t with
  | error k =>
    rw [hX] at KV1
    unfold QvR thrown at KV1
    have HX := hid hX
    clear hX
    go_wp2_with fail
    refine KV1.out.mono ?_
    rintro e w2 ⟨rfl, hp, tt⟩
    have HE := hid hp
    have TE := hid (T1.out.trans tt (fun _ _ e => e))
    clear hp tt KV1 KB
    go_wp2
    refine ⟨rfl, ?_⟩
    rw [HX.out]
    exact ⟨rfl, HE.out, TE.out⟩
  | ok ou =>
    obtain ⟨o, u⟩ := ou
    rw [hX] at KV1
    change Hid (Calls Tryd.prog 45 #[.pointer (some ⟨b, 0, none⟩)] w1 fun e w' => e = .returned (.agg #[.int .i64 4, .string ⟨o.toArray⟩, .slice none 0 0, .slice none 0 0]) ∧ Ps w' b s u d ∧ Touch (fun k => k = b) w1 w') at KV1
    obtain ⟨hu, hub⟩ := HNB.out o u hX
    obtain ⟨S, hS⟩ : ∃ S, (⟨o.toArray⟩ : ByteArray) = S := ⟨_, rfl⟩
    rw [hS] at KV1
    have HS := hid hS
    clear hS
    have HX := hid hX
    clear hX
    go_wp2_with fail
    refine KV1.out.mono ?_
    rintro e w2 ⟨rfl, hp, tt⟩
    have H2 := hid hp
    have T2 := hid (T1.out.trans tt (fun _ _ e => e))
    have B2 := hid ((tt.block q (lt_of_block B1.out) (fun e => by have := HQ.out; omega)).trans B1.out)
    clear hp tt KV1 B1 T1 H1
    go_upto_region 3 with fail
    have tA := (Touch.refl (fun _ => False) w2).alloc (.cells #[.int .i64 4, .string S, .slice none 0 0, .slice none 0 0] 36)
    have H3 := hid (H2.out.new tA)
    have T3 := hid (T2.out.trans tA (fun _ _ e => e.elim))
    have B3 := hid ((tA.block q (lt_of_block B2.out) id).trans B2.out)
    have C3 := hid (jfour_new (w := w2) (.int .i64 4) (.string S) (.slice none 0 0) (.slice none 0 0) 36)
    have HQ3 := hid (show b < w2.heap.size ∧ q < w2.heap.size from ⟨H2.out.lt, lt_of_block B2.out⟩)
    clear tA H2 T2 B2
    generalize w2.alloc (.cells #[.int .i64 4, .string S, .slice none 0 0, .slice none 0 0] 36) = w3 at *
    generalize w2.heap.size = q3 at *
    go_wp2_with fail
    refine (KB.out _ u H3.out hu hub).mono ?_
    rintro e w4 ⟨rfl, hp, tt⟩
    have H4 := hid hp
    have T4 := hid (T3.out.trans tt (fun _ _ e => e))
    have B4 := hid ((tt.block q (lt_of_block B3.out) (fun e => by have := HQ.out; omega)).trans B3.out)
    have C4 := hid ((tt.block q3 (lt_of_block C3.out) (fun e => by have := HQ3.out; omega)).trans C3.out)
    clear hp tt H3 T3 B3 C3 KB
    have b4' := B4.out
    have c4' := C4.out
    have j0 : w4.cell? ⟨q3, 0, none⟩ = some (.int .i64 4) := by simp [World.cell?, c4']
    have j1 : w4.cell? ⟨q3, 1, none⟩ = some (.string S) := by simp [World.cell?, c4']
    have j2 : w4.cell? ⟨q3, 2, none⟩ = some (.slice none 0 0) := by simp [World.cell?, c4']
    have j3 : w4.cell? ⟨q3, 3, none⟩ = some (.slice none 0 0) := by simp [World.cell?, c4']
    have k0 : w4.cell? ⟨q, 0, none⟩ = some (.int .i64 0) := by simp [World.cell?, b4']
    have k1 : w4.cell? ⟨q, 1, none⟩ = some (.string ⟨#[]⟩) := by simp [World.cell?, b4']
    have k2 : w4.cell? ⟨q, 2, none⟩ = some (.slice none 0 0) := by simp [World.cell?, b4']
    have k3 : w4.cell? ⟨q, 3, none⟩ = some (.slice none 0 0) := by simp [World.cell?, b4']
    have f0 : w4.frozen? ⟨q, 0, none⟩ = false := by simp [World.frozen?, b4']
    have f1 : w4.frozen? ⟨q, 1, none⟩ = false := by simp [World.frozen?, b4']
    have f2 : w4.frozen? ⟨q, 2, none⟩ = false := by simp [World.frozen?, b4']
    have f3 : w4.frozen? ⟨q, 3, none⟩ = false := by simp [World.frozen?, b4']
    clear b4' c4'
    go_wp2
    refine bodyPost_ret (results_c rfl _ _ q 36 _ (0, 0) _ rfl (jfour_set B4.out _ _ _ _) Tryd.underlying36 rfl (by kernel_rfl)) rfl ?_
    rw [HX.out]
    refine ⟨?_, H4.out.four (by have := HQ.out; omega) _ _ _ _, jfour_touch T4.out HQ.out.1 _ _ _ _⟩
    rw [HS.out]
set_option maxRecDepth 100000 in
set_option maxHeartbeats 4000000 in
theorem whole_okT (b : Nat) (s : ByteArray) (u d : Nat) (vk : Nat) (vt : ByteArray) (a2 a3 : Option Addr) (n2 n3 c2 c3 : Nat) (w : World) (h : Ps w b s 0 0) (hs : s.size ≤ 1048576) (hu : u ≤ s.size)
    (htb : Tabs w) (K : ∀ w', Ps w' b s 0 0 → Tabs w' → Calls Tryd.prog 24 #[.pointer (some ⟨b, 0, none⟩)] w' fun e w'' => e = .returned (.agg #[.int .i64 (vk : Nat), .string vt, .slice a2 n2 c2, .slice a3 n3 c3]) ∧ Ps w'' b s u d ∧ Touch (fun k => k = b) w' w'') :
    Calls Tryd.prog 14 #[.pointer (some ⟨b, 0, none⟩)] w fun e w' => e = .returned (if u = s.size then .tuple #[.agg #[.int .i64 (vk : Nat), .string vt, .slice a2 n2 c2, .slice a3 n3 c3], fV 0 0] else .tuple #[zV, fV 20 u]) ∧ Touch (fun k => k = b) w w' := by
  have KL := hid (fun w' (hp : Ps w' b s u d) => look_any b s u d w' hp hs hu)
  have KW := hid (fun w' (hp : Ps w' b s u d) => wrong_any b s u d 20 w' hp)
  unfold thrown at KW
  have HE := hid (show u = s.size ↔ lk s u = -1 from by
    unfold lk
    constructor
    · intro e
      rw [List.getElem?_eq_none (by rw [size_list]; omega)]
    · intro e
      by_cases hl : u < s.size
      · rw [at_opt s u hl] at e
        simp only at e
        omega
      · omega)
  have hmf : ∀ (fn : Fn) (first cap : Array Value) (w : World), (Instr.makeFunc fn first cap).run Tryd.prog w = .ok (.func fn first cap) w := fun _ _ _ _ => rfl
  have B := hid (begin2 h.lt)
  have H0 := hid (h.new B.out.2.2.1)
  have KH := hid K
  have HTB := hid (htb.new B.out.2.2.1)
  clear K h htb
  skip
  go_enter_defers Tryd.func14, Tryd.ntmps14
  go_upto_region 2 with fail
  generalize (w.alloc (.cells #[.int .i64 0, .string ⟨#[]⟩, .slice none 0 0, .slice none 0 0] 36)).alloc (.cells #[.int .i64 0, .int .i64 0] 39) = w1 at *
  obtain ⟨BA, BB, T1, L⟩ := B.out
  clear B
  replace BA := hid BA
  replace BB := hid BB
  replace T1 := hid T1
  obtain ⟨p, hp⟩ : ∃ p, p = w.heap.size := ⟨_, rfl⟩
  obtain ⟨q, hq⟩ : ∃ q, q = w.heap.size + 1 := ⟨_, rfl⟩
  have HL := hid (show b < p ∧ w.heap.size ≤ p ∧ p < q from by rw [hp, hq]; exact L)
  clear L
  rw [← hq] at BB ⊢
  rw [← hp] at BA ⊢
  clear hp hq
  go_wp2_with fail
  refine (KH.out w1 H0.out HTB.out).mono ?_
  rintro e w2 ⟨rfl, hp2, tt⟩
  have P2 := hid ((tt.block p (lt_of_block BA.out) (fun e => by have := HL.out; omega)).trans BA.out)
  have Q2 := hid ((tt.block q (lt_of_block BB.out) (fun e => by have := HL.out; omega)).trans BB.out)
  have T2 := hid (Touch.trans (S := fun k => k = b) (T1.out.mono (fun _ _ e => e.elim)) tt (fun _ _ e => e))
  have H2 := hid hp2
  clear tt KH H0 BA BB T1
  have p2 := P2.out
  have ca0 : w2.cell? ⟨p, 0, none⟩ = some (.int .i64 0) := by simp [World.cell?, p2]
  have ca1 : w2.cell? ⟨p, 1, none⟩ = some (.string ⟨#[]⟩) := by simp [World.cell?, p2]
  have ca2 : w2.cell? ⟨p, 2, none⟩ = some (.slice none 0 0) := by simp [World.cell?, p2]
  have ca3 : w2.cell? ⟨p, 3, none⟩ = some (.slice none 0 0) := by simp [World.cell?, p2]
  have e0 : w2.frozen? ⟨p, 0, none⟩ = false := by simp [World.frozen?, p2]
  have e1 : w2.frozen? ⟨p, 1, none⟩ = false := by simp [World.frozen?, p2]
  have e2 : w2.frozen? ⟨p, 2, none⟩ = false := by simp [World.frozen?, p2]
  have e3 : w2.frozen? ⟨p, 3, none⟩ = false := by simp [World.frozen?, p2]
  clear p2 hp2
  go_upto_region 3 with fail
  have P3 := hid (jfour_set P2.out (.int .i64 (vk : Nat)) (.string vt) (.slice a2 n2 c2) (.slice a3 n3 c3))
  have H3 := hid (H2.out.four (q := p) (by have := HL.out; omega) (.int .i64 (vk : Nat)) (.string vt) (.slice a2 n2 c2) (.slice a3 n3 c3))
  have T3 := hid (jfour_touch T2.out (q := p) (by have := HL.out; omega) (.int .i64 (vk : Nat)) (.string vt) (.slice a2 n2 c2) (.slice a3 n3 c3))
  have Q3 := hid (show ((((w2.setCell ⟨p, 0, none⟩ (.int .i64 (vk : Nat))).setCell ⟨p, 1, none⟩ (.string vt)).setCell ⟨p, 2, none⟩ (.slice a2 n2 c2)).setCell ⟨p, 3, none⟩ (.slice a3 n3 c3)).heap[q]? = some (.cells #[.int .i64 0, .int .i64 0] 39 (0, 0)) from by
    have n6 : q ≠ p := by have := HL.out; omega
    rw [Below.heap_setCell _ _ _ _ n6, Below.heap_setCell _ _ _ _ n6, Below.heap_setCell _ _ _ _ n6, Below.heap_setCell _ _ _ _ n6]
    exact Q2.out)
  generalize (((w2.setCell ⟨p, 0, none⟩ (.int .i64 (vk : Nat))).setCell ⟨p, 1, none⟩ (.string vt)).setCell ⟨p, 2, none⟩ (.slice a2 n2 c2)).setCell ⟨p, 3, none⟩ (.slice a3 n3 c3) = w3 at *
  clear ca0 ca1 ca2 ca3 e0 e1 e2 e3 P2 H2 T2 Q2
  go_wp2_with fail
  refine (KL.out w3 H3.out).mono ?_
  rintro e w4 ⟨rfl, tt⟩
  have P4 := hid ((tt.block p (lt_of_block P3.out) id).trans P3.out)
  have Q4 := hid ((tt.block q (lt_of_block Q3.out) id).trans Q3.out)
  have T4 := hid (T3.out.trans tt (fun _ _ e => e.elim))
  have H4 := hid (H3.out.new tt)
  clear tt KL P3 Q3 T3 H3
  by_cases hend : lk s u = -1
  · have HU := hid (HE.out.2 hend)
    have hB : ((lk s u) != (-1 : Int)) = false := by simpa using hend
    generalize lk s u = x at *
    subst hend
    clear KW HE
    have p4 := P4.out
    have q4 := Q4.out
    have ca0 : w4.cell? ⟨p, 0, none⟩ = some (.int .i64 (vk : Nat)) := by simp [World.cell?, p4]
    have ca1 : w4.cell? ⟨p, 1, none⟩ = some (.string vt) := by simp [World.cell?, p4]
    have ca2 : w4.cell? ⟨p, 2, none⟩ = some (.slice a2 n2 c2) := by simp [World.cell?, p4]
    have ca3 : w4.cell? ⟨p, 3, none⟩ = some (.slice a3 n3 c3) := by simp [World.cell?, p4]
    have e0 : w4.frozen? ⟨p, 0, none⟩ = false := by simp [World.frozen?, p4]
    have e1 : w4.frozen? ⟨p, 1, none⟩ = false := by simp [World.frozen?, p4]
    have e2 : w4.frozen? ⟨p, 2, none⟩ = false := by simp [World.frozen?, p4]
    have e3 : w4.frozen? ⟨p, 3, none⟩ = false := by simp [World.frozen?, p4]
    have g0 : w4.cell? ⟨q, 0, none⟩ = some (.int .i64 0) := by simp [World.cell?, q4]
    have g1 : w4.cell? ⟨q, 1, none⟩ = some (.int .i64 0) := by simp [World.cell?, q4]
    have f0 : w4.frozen? ⟨q, 0, none⟩ = false := by simp [World.frozen?, q4]
    have f1 : w4.frozen? ⟨q, 1, none⟩ = false := by simp [World.frozen?, q4]
    clear p4 q4
    have n5 : ¬ p = q := by have := HL.out; omega
    have n6 : ¬ q = p := by have := HL.out; omega
    go_wp2
    clear ca0 ca1 ca2 ca3 e0 e1 e2 e3 g0 g1 f0 f1
    have P5 := jfour_set P4.out (.int .i64 (vk : Nat)) (.string vt) (.slice a2 n2 c2) (.slice a3 n3 c3)
    have T5 := jfour_touch T4.out (q := p) (by have := HL.out; omega) (.int .i64 (vk : Nat)) (.string vt) (.slice a2 n2 c2) (.slice a3 n3 c3)
    have Q5 : ((((w4.setCell ⟨p, 0, none⟩ (.int .i64 (vk : Nat))).setCell ⟨p, 1, none⟩ (.string vt)).setCell ⟨p, 2, none⟩ (.slice a2 n2 c2)).setCell ⟨p, 3, none⟩ (.slice a3 n3 c3)).heap[q]? = some (.cells #[.int .i64 0, .int .i64 0] 39 (0, 0)) := by
      rw [Below.heap_setCell _ _ _ _ n6, Below.heap_setCell _ _ _ _ n6, Below.heap_setCell _ _ _ _ n6, Below.heap_setCell _ _ _ _ n6]
      exact Q4.out
    generalize (((w4.setCell ⟨p, 0, none⟩ (.int .i64 (vk : Nat))).setCell ⟨p, 1, none⟩ (.string vt)).setCell ⟨p, 2, none⟩ (.slice a2 n2 c2)).setCell ⟨p, 3, none⟩ (.slice a3 n3 c3) = w5 at *
    have P6 : ((w5.setCell ⟨q, 0, none⟩ (.int .i64 0)).setCell ⟨q, 1, none⟩ (.int .i64 0)).heap[p]? = some (.cells #[.int .i64 (vk : Nat), .string vt, .slice a2 n2 c2, .slice a3 n3 c3] 36 (0, 0)) := by
      rw [Below.heap_setCell _ _ _ _ n5, Below.heap_setCell _ _ _ _ n5]
      exact P5
    have Q6 := jtwo_set Q5 (.int .i64 0) (.int .i64 0)
    have T6 := (T5.setCell (p := ⟨q, 0, none⟩) (fun h => absurd h (by have := HL.out; dsimp only; omega)) (.int .i64 0)).setCell (p := ⟨q, 1, none⟩) (fun h => absurd h (by have := HL.out; dsimp only; omega)) (.int .i64 0)
    generalize (w5.setCell ⟨q, 0, none⟩ (.int .i64 0)).setCell ⟨q, 1, none⟩ (.int .i64 0) = w6 at *
    refine leaves_cons (f := 23) (args := #[.pointer (some ⟨p, 0, none⟩), .pointer (some ⟨q, 0, none⟩)]) (by simp) (by simp [go_sem]) ?_
    refine (catch_idle ⟨p, 0, none⟩ ⟨q, 0, none⟩ w6).mono ?_
    rintro e u' w9 ⟨rfl, rfl, rfl⟩
    exact ⟨_, results_cc rfl _ _ p q 36 39 _ _ (0, 0) (0, 0) _ _ rfl P6 Tryd.underlying36 rfl (by kernel_rfl) rfl Q6 Tryd.underlying39 rfl (by kernel_rfl), rfl, T6⟩
  · have HU := hid (fun e => hend (HE.out.1 e))
    have hB : ((lk s u) != (-1 : Int)) = true := by simpa using hend
    generalize lk s u = x at *
    have KW4 := hid (KW.out w4 H4.out)
    clear KW HE
    go_wp2_with fail
    refine KW4.out.mono ?_
    rintro e w5 ⟨rfl, tt⟩
    have P5 := hid ((tt.block p (lt_of_block P4.out) id).trans P4.out)
    have Q5 := hid ((tt.block q (lt_of_block Q4.out) id).trans Q4.out)
    have T5 := hid (T4.out.trans tt (fun _ _ e => e.elim))
    clear tt KW4 P4 Q4 T4 H4
    go_wp2
    refine leaves_cons (f := 23) (args := #[.pointer (some ⟨p, 0, none⟩), .pointer (some ⟨q, 0, none⟩)]) (by simp) (by simp [go_sem]) ?_
    refine (catch_thrown p q 20 u [] w5 _ _ _ _ _ _ P5.out Q5.out (by have := HL.out; omega)).mono ?_
    rintro e u' w9 ⟨rfl, rfl, P9, Q9, t9⟩
    exact ⟨_, results_cc rfl _ _ p q 36 39 _ _ (0, 0) (0, 0) _ _ rfl P9 Tryd.underlying36 rfl (by kernel_rfl) rfl Q9 Tryd.underlying39 rfl (by kernel_rfl), rfl, T5.out.trans t9 (fun i hi e => by have := HL.out; omega)⟩
set_option maxRecDepth 100000 in
set_option maxHeartbeats 4000000 in
theorem parse_ofT (s : ByteArray) (vk : Nat) (vt : ByteArray) (z2 z3 : Option Addr) (n2 n3 c2 c3 fc fk : Nat) (w : World) (ht : Tabs w) (hs : s.size ≤ 1048576)
    (KD : ∀ w, Tabs w → Calls Tryd.prog 13 #[.string (xs s), .int .i64 1, .bool true] w fun e w' => ∃ a1 n1 c1 a2 n2 c2, e = .returned (.tuple #[.agg #[.int .i64 1, .slice a1 n1 c1, .slice a2 n2 c2, .int .i64 0], .agg #[.int .i64 0, .int .i64 0]]) ∧ Touch (fun _ => False) w w')
    (KW : ∀ b w', Ps w' b s 0 0 → 2 ≤ b → Tabs w' → Calls Tryd.prog 14 #[.pointer (some ⟨b, 0, none⟩)] w' fun e w'' => e = .returned (.tuple #[.agg #[.int .i64 (vk : Nat), .string vt, .slice z2 n2 c2, .slice z3 n3 c3], .agg #[.int .i64 (fc : Nat), .int .i64 (fk : Nat)]]) ∧ Touch (fun k => k = b) w' w'') :
    Calls Tryd.prog 7 #[.string s] w fun e w' => e = .returned (.tuple #[.agg #[.int .i64 (vk : Nat), .string vt, .slice z2 n2 c2, .slice z3 n3 c3], .agg #[.int .i64 (fc : Nat), .int .i64 (fk : Nat)]]) ∧ Touch (fun _ => False) w w' := by
  have hsI : ¬ (1048576 : Int) < (s.size : Int) := by omega
  have K1 := hid KD
  have K2 := hid KW
  clear KD KW
  unfold xs at K1
  have B := hid (begin2 (w := w) (b := 0) (by have := ht.two; omega))
  have HT := hid (ht.new B.out.2.2.1)
  clear ht
  go_enter Tryd.func7, Tryd.ntmps7
  go_upto_region 1 with fail
  generalize (w.alloc (.cells #[.int .i64 0, .string ⟨#[]⟩, .slice none 0 0, .slice none 0 0] 36)).alloc (.cells #[.int .i64 0, .int .i64 0] 39) = w1 at *
  obtain ⟨BA, BB, T1, L⟩ := B.out
  clear B
  replace BA := hid BA
  replace BB := hid BB
  replace T1 := hid T1
  obtain ⟨p, hp⟩ : ∃ p, p = w.heap.size := ⟨_, rfl⟩
  obtain ⟨q, hq⟩ : ∃ q, q = w.heap.size + 1 := ⟨_, rfl⟩
  have HL := hid (show w.heap.size ≤ p ∧ w.heap.size ≤ q ∧ p < q from by rw [hp, hq]; exact ⟨Nat.le_refl _, by omega, by omega⟩)
  clear L
  rw [← hq] at BB ⊢
  rw [← hp] at BA ⊢
  clear hp hq
  go_wp2_with fail
  refine (K1.out w1 HT.out).mono ?_
  rintro e w2 ⟨b1, m1, d1, b2, m2, d2, rfl, tt⟩
  have P2 := hid ((tt.block p (lt_of_block BA.out) id).trans BA.out)
  have Q2 := hid ((tt.block q (lt_of_block BB.out) id).trans BB.out)
  have T2 := hid (T1.out.trans tt (fun _ _ e => e))
  have HT2 := hid (HT.out.new tt)
  clear tt K1 BA BB T1 HT
  go_upto_region 4 with fail
  have TA := (Touch.refl (fun _ => False) w2).alloc (.cells #[.int .i64 1, .slice b1 m1 d1, .slice b2 m2 d2, .int .i64 0] 56) |>.alloc (.cells #[.int .i64 0, .int .i64 0] 39)
  have BR := hid (jtwo_new (w := w2.alloc (.cells #[.int .i64 1, .slice b1 m1 d1, .slice b2 m2 d2, .int .i64 0] 56)) (.int .i64 0) (.int .i64 0) 39)
  rw [size_alloc1] at BR
  have HT3 := hid (HT2.out.new TA)
  have P3 := hid ((TA.block p (lt_of_block P2.out) id).trans P2.out)
  have Q3 := hid ((TA.block q (lt_of_block Q2.out) id).trans Q2.out)
  have T3 := hid (T2.out.trans TA (fun _ _ e => e))
  clear TA P2 Q2 T2
  generalize (w2.alloc (.cells #[.int .i64 1, .slice b1 m1 d1, .slice b2 m2 d2, .int .i64 0] 56)).alloc (.cells #[.int .i64 0, .int .i64 0] 39) = w3 at *
  generalize w2.heap.size + 1 = r at *
  obtain ⟨⟨r0, r1⟩, _⟩ := cells2 BR.out
  clear BR
  go_upto_region 7 with fail
  have TA := (Touch.refl (fun _ => False) w3).alloc (.cells #[.string s, .int .i64 0, .int .i64 0] 60)
  have H4 := hid (show Ps (w3.alloc (.cells #[.string s, .int .i64 0, .int .i64 0] 60)) w3.heap.size s 0 0 from by
    show (w3.heap.push _)[_]? = _
    simp)
  have HT4 := hid (HT3.out.new TA)
  have HB2 := hid HT3.out.two
  have P4 := hid ((TA.block p (lt_of_block P3.out) id).trans P3.out)
  have Q4 := hid ((TA.block q (lt_of_block Q3.out) id).trans Q3.out)
  have T4 := hid (T3.out.trans TA (fun _ _ e => e))
  have HB := hid (show p < w3.heap.size ∧ q < w3.heap.size ∧ w.heap.size ≤ w3.heap.size from ⟨lt_of_block P3.out, lt_of_block Q3.out, T3.out.size⟩)
  clear TA P3 Q3 T3 r0 r1
  generalize w3.alloc (.cells #[.string s, .int .i64 0, .int .i64 0] 60) = w4 at *
  generalize w3.heap.size = b at *
  go_wp2_with fail
  refine (K2.out b w4 H4.out HB2.out HT4.out).mono ?_
  rintro e w5 ⟨rfl, tt⟩
  have P5 := hid ((tt.block p (lt_of_block P4.out) (fun e => by have := HB.out; omega)).trans P4.out)
  have Q5 := hid ((tt.block q (lt_of_block Q4.out) (fun e => by have := HB.out; omega)).trans Q4.out)
  have T5 := hid (Touch.trans (S := fun _ => False) T4.out tt (fun i hi e => by have := HB.out; omega))
  clear tt K2 P4 Q4 T4 H4
  obtain ⟨⟨a0, a1, a2, a3⟩, ⟨e0, e1, e2, e3⟩⟩ := cells4 P5.out
  obtain ⟨⟨g0, g1⟩, ⟨f0, f1⟩⟩ := cells2 Q5.out
  have n5 : ¬ p = q := by have := HL.out; omega
  have n6 : ¬ q = p := by have := HL.out; omega
  go_wp2
  have R := both_set P5.out Q5.out n5 (.int .i64 (vk : Nat)) (.string vt) (.slice z2 n2 c2) (.slice z3 n3 c3) (.int .i64 (fc : Nat)) (.int .i64 (fk : Nat))
  have T := both_touch T5.out HL.out.1 HL.out.2.1 (.int .i64 (vk : Nat)) (.string vt) (.slice z2 n2 c2) (.slice z3 n3 c3) (.int .i64 (fc : Nat)) (.int .i64 (fk : Nat))
  exact bodyPost_ret (results_cc rfl _ _ p q 36 39 _ _ (0, 0) (0, 0) _ _ rfl R.1 Tryd.underlying36 rfl (by kernel_rfl) rfl R.2 Tryd.underlying39 rfl (by kernel_rfl)) rfl ⟨rfl, T⟩

end Go.Proofs.YtjpmjcadnnglnaaDoor

/- What Quote writes, read again: plain; no condition. -/
namespace Go.Proofs.YtjpmjcadnnglnaaDoor
open Go.RowKit
open Go.Lib

/-- The bytes of scalars. -/
def UB (L : List Nat) : Bs := L.flatMap ub
def ints (L : List Nat) : List Int := L.map fun (x : Nat) => (x : Int)
theorem en8_ub (x : Nat) (h : isSc x) : en8 (x : Int) = (ub x).map fun b => (b.toNat : Int) := by
  unfold isSc at h
  unfold en8 ub
  by_cases h1 : x < 128
  · rw [if_pos (by omega), if_pos h1]
    simp
    omega
  · rw [if_neg (by omega), if_neg h1]
    by_cases h2 : x < 2048
    · rw [if_pos (by omega), if_pos h2]
      simp
      omega
    · rw [if_neg (by omega), if_neg h2]
      by_cases h3 : x < 65536
      · rw [if_pos (by omega), if_pos h3]
        simp
        omega
      · rw [if_neg (by omega), if_neg h3]
        simp
        omega
theorem ints_enc : ∀ L : List Nat, (∀ x ∈ L, isSc x) → (ints L).flatMap (enc 1) = (UB L).map fun b => (b.toNat : Int)
  | [], _ => rfl
  | x :: L, h => by
    have ih := ints_enc L (fun y hy => h y (by simp [hy]))
    unfold ints UB at *
    rw [List.map_cons, List.flatMap_cons, List.flatMap_cons, List.map_append, ih, enc1, en8_ub x (h x (by simp))]
theorem ints_ok (L : List Nat) (h : ∀ x ∈ L, isSc x) : (ints L).all (okc 1) = true := by
  rw [List.all_eq_true]
  intro y hy
  unfold ints at hy
  obtain ⟨x, hx, rfl⟩ := List.mem_map.1 hy
  have := h x hx
  unfold isSc at this
  unfold okc
  rw [show scB (x : Int) = true from (scB_iff _).2 (by omega)]
  rfl
theorem lays_self (s : ByteArray) (l : Bs) (h : s.data.toList = l) : Lays s 0 (l.map fun b => (b.toNat : Int)) := by
  intro j hj
  rw [List.length_map] at hj
  have hs : j < s.size := by rw [← size_list, h]; exact hj
  rw [Nat.zero_add]
  refine ⟨hs, ?_⟩
  rw [List.getElem_map, ← by_get s j hs]
  have h1 := at_opt s j hs
  rw [h, List.getElem?_eq_getElem hj] at h1
  rw [Option.some.inj h1]
/-- Strictly decoded, bytes of scalars are these. -/
theorem dec_ub (s : ByteArray) (L : List Nat) (h : s.data.toList = UB L) (hL : ∀ x ∈ L, isSc x) (strict : Bool) : ∃ ps, dcGo s 1 strict s.size 0 [] [] 0 = (none, ints L, ps, 0) := by
  have hl := lays_self s _ h
  rw [← ints_enc L hL] at hl
  have hz : s.size = 0 + ((ints L).flatMap (enc 1)).length := by
    rw [ints_enc L hL, List.length_map, ← h, size_list, Nat.zero_add]
  obtain ⟨ps, hp⟩ := dc_fwd 1 (by omega) s strict (ints L) s.size 0 [] [] 0 (ints_ok L hL) hl hz (by omega)
  exact ⟨ps, by rw [hp, List.nil_append]⟩
/-- The scalars that a scalar is quoted as. -/
def qsc (x : Nat) : List Nat := match escB x with
  | some c => [92, c.toNat]
  | none => if x < 32 then [92, 117, 48, 48, (hexL.getD (x / 16) 0).toNat, (hexL.getD (x % 16) 0).toNat] else [x]
theorem ub_low (x : Nat) (h : x < 128) : ub x = [x.toUInt8] := by unfold ub; rw [if_pos h]
set_option maxRecDepth 100000 in
theorem qsc_all : ∀ x, x < 128 → (qsc x).all (fun y => decide (y < 128)) = true ∧ UB (qsc x) = qo x := by decide
theorem qsc_ub (x : Nat) (h : isSc x) : UB (qsc x) = qo x ∧ ∀ y ∈ qsc x, isSc y := by
  by_cases hx : x < 128
  · obtain ⟨h1, h2⟩ := qsc_all x hx
    refine ⟨h2, fun y hy => ?_⟩
    have := List.all_eq_true.1 h1 y hy
    rw [decide_eq_true_eq] at this
    unfold isSc
    omega
  · have he : escB x = none := by
      unfold escB
      rw [if_neg (by omega), if_neg (by omega), if_neg (by omega), if_neg (by omega), if_neg (by omega), if_neg (by omega), if_neg (by omega)]
    have e1 : qsc x = [x] := by unfold qsc; rw [he]; simp only; rw [if_neg (by omega)]
    have e2 : qo x = ub x := by unfold qo; rw [he]; simp only; rw [if_neg (by omega)]
    rw [e1, e2]
    refine ⟨by unfold UB; simp, fun y hy => ?_⟩
    rw [List.mem_singleton] at hy
    rw [hy]
    exact h
theorem flat_qsc : ∀ L : List Nat, (∀ x ∈ L, isSc x) → UB (L.flatMap qsc) = L.flatMap qo ∧ ∀ y ∈ L.flatMap qsc, isSc y
  | [], _ => ⟨rfl, by simp⟩
  | x :: L, h => by
    obtain ⟨h1, h2⟩ := flat_qsc L (fun y hy => h y (by simp [hy]))
    obtain ⟨h3, h4⟩ := qsc_ub x (h x (by simp))
    rw [List.flatMap_cons, List.flatMap_cons]
    refine ⟨?_, fun y hy => ?_⟩
    · rw [← h1, ← h3]
      unfold UB
      rw [List.flatMap_append]
    · rcases List.mem_append.1 hy with e | e
      · exact h4 y e
      · exact h2 y e
/-- The text that Quote writes. -/
def quS (L : List Nat) : ByteArray := ⟨(34 :: (L.flatMap qo ++ [34])).toArray⟩
theorem qu_list (L : List Nat) : (quS L).data.toList = 34 :: (L.flatMap qo ++ [34]) := by unfold quS; simp
theorem qu_size (L : List Nat) : (quS L).size = (L.flatMap qo).length + 2 := by
  rw [← size_list, qu_list]
  simp
theorem xs_list (s : ByteArray) : (xs s).data.toList = 120 :: s.data.toList := by
  unfold xs
  simp
/-- It is well formed. -/
theorem qu_strict (L : List Nat) (h : ∀ x ∈ L, isSc x) : ∃ ps, dcGo (xs (quS L)) 1 true (xs (quS L)).size 0 [] [] 0 = (none, ints (120 :: 34 :: (L.flatMap qsc ++ [34])), ps, 0) := by
  obtain ⟨h1, h2⟩ := flat_qsc L h
  refine dec_ub _ _ ?_ ?_ true
  · rw [xs_list, qu_list, ← h1]
    unfold UB
    rw [List.flatMap_cons, List.flatMap_cons, List.flatMap_append]
    rfl
  · intro x hx
    simp only [List.mem_cons, List.mem_append, List.not_mem_nil, or_false] at hx
    rcases hx with rfl | rfl | hx | rfl
    · unfold isSc; omega
    · unfold isSc; omega
    · exact h2 x hx
    · unfold isSc; omega
theorem qu_decode (L : List Nat) (h : ∀ x ∈ L, isSc x) (hs : (quS L).size ≤ 1048576) (w : World) (ht : Tabs w) :
    Calls Tryd.prog 13 #[.string (xs (quS L)), .int .i64 1, .bool true] w fun e w' => ∃ a1 n1 c1 a2 n2 c2, e = .returned (.tuple #[.agg #[.int .i64 1, .slice a1 n1 c1, .slice a2 n2 c2, .int .i64 0], .agg #[.int .i64 0, .int .i64 0]]) ∧ Touch (fun _ => False) w w' := by
  have k := decode_any (xs (quS L)) 1 true w ht (by rw [xs_size]; omega) (by decide)
  rw [xs_bg] at k
  obtain ⟨ps, hp⟩ := qu_strict L h
  refine k.mono ?_
  intro e w' hh
  rw [show (((1 : Nat), (0 : Nat)).1) = 1 from rfl, show (((1 : Nat), (0 : Nat)).2) = 0 from rfl, hp] at hh
  rcases hh with ⟨i, h1, _⟩ | ⟨_, h2⟩
  · cases h1
  · obtain ⟨v1, v2, he, o1, o2⟩ := h2.ex
    obtain ⟨a1, c1, rfl⟩ := own_shape o1.own
    obtain ⟨a2, c2, rfl⟩ := own_shape o2.own
    exact ⟨a1, _, c1, a2, _, c2, he, o1.touch⟩
end Go.Proofs.YtjpmjcadnnglnaaDoor
