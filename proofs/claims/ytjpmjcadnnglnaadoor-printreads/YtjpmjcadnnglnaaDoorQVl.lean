/- Texts of this proof, one behind the other: what each says stands ahead of it. -/
import Derived.Test.YtjpmjcadnnglnaaDoorVj
import Derived.Test.YtjpmjcadnnglnaaDoorM14
import Derived.Test.YtjpmjcadnnglnaaDoorM6
/- A parser of JSON: whole, of any text; conditions: as told. -/
namespace Go.Proofs.YtjpmjcadnnglnaaDoor
open Go.RowKit
open Go.Lib

/-- What a whole text tells. -/
def endsE (s : ByteArray) : JR (JV × Nat) → JR JV
  | .error e => .error e
  | .ok (x, u) => if u = s.size then .ok x else .error (20, u)
def wholeE (s : ByteArray) : JR JV := endsE s (valF s 32 0)
def WholeP (b : Nat) (w : World) : JR JV → Ending → World → Prop
  | .ok x, e, w' => ∃ k t a2 n2 c2 a3 n3 c3 B, e = .returned (.tuple #[.agg #[.int .i64 k, .string t, .slice a2 n2 c2, .slice a3 n3 c3], fV 0 0]) ∧ TV w' B ⟨k, t, .slice a2 n2 c2, .slice a3 n3 c3⟩ x ∧ (∀ g, B g → w.heap.size ≤ g ∧ g < w'.heap.size) ∧ Touch (fun k => k = b) w w'
  | .error (c, k), e, w' => e = .returned (.tuple #[zV, fV c k]) ∧ Touch (fun k => k = b) w w'
set_option maxRecDepth 100000 in
set_option maxHeartbeats 4000000 in
theorem whole_badT (b : Nat) (s : ByteArray) (c k : Nat) (w : World) (h : Ps w b s 0 0) (htb : Tabs w)
    (K : ∀ w', Ps w' b s 0 0 → Tabs w' → Calls Tryd.prog 24 #[.pointer (some ⟨b, 0, none⟩)] w' fun e w'' => e = thrown c k ∧ Touch (fun k => k = b) w' w'') :
    Calls Tryd.prog 14 #[.pointer (some ⟨b, 0, none⟩)] w fun e w' => e = .returned (.tuple #[zV, fV c k]) ∧ Touch (fun k => k = b) w w' := by
  have hmf : ∀ (fn : Fn) (first cap : Array Value) (w : World), (Instr.makeFunc fn first cap).run Tryd.prog w = .ok (.func fn first cap) w := fun _ _ _ _ => rfl
  have B := hid (begin2 h.lt)
  have H0 := hid (h.new B.out.2.2.1)
  have KH := hid K
  have HTB := hid (htb.new B.out.2.2.1)
  clear K h htb
  unfold thrown at KH
  go_enter_defers Tryd.func14, Tryd.ntmps14
  go_upto_region 2 with fail
  generalize (w.alloc (.cells #[.int .i64 0, .string ⟨#[]⟩, .slice none 0 0, .slice none 0 0] 36)).alloc (.cells #[.int .i64 0, .int .i64 0] 39) = w1 at *
  obtain ⟨BA, BB, T1, L⟩ := B.out
  clear B
  replace BA := hid BA
  replace BB := hid BB
  replace T1 := hid T1
  obtain ⟨p, hp⟩ : ∃ p, p = w.heap.size := ⟨_, rfl⟩
  obtain ⟨q, hq⟩ : ∃ q, q = w.heap.size + 1 := ⟨_, rfl⟩
  have HL := hid (show b < p ∧ w.heap.size ≤ p ∧ p < q from by rw [hp, hq]; exact L)
  clear L
  rw [← hq] at BB ⊢
  rw [← hp] at BA ⊢
  clear hp hq
  go_wp2_with fail
  refine (KH.out w1 H0.out HTB.out).mono ?_
  rintro e w2 ⟨rfl, tt⟩
  have P2 := hid ((tt.block p (lt_of_block BA.out) (fun e => by have := HL.out; omega)).trans BA.out)
  have Q2 := hid ((tt.block q (lt_of_block BB.out) (fun e => by have := HL.out; omega)).trans BB.out)
  have T2 := hid (Touch.trans (S := fun k => k = b) (T1.out.mono (fun _ _ e => e.elim)) tt (fun _ _ e => e))
  skip
  clear tt KH H0 BA BB T1
  go_wp2
  refine leaves_cons (f := 23) (args := #[.pointer (some ⟨p, 0, none⟩), .pointer (some ⟨q, 0, none⟩)]) (by simp) (by simp [go_sem]) ?_
  refine (catch_thrown p q c k [] w2 _ _ _ _ _ _ P2.out Q2.out (by have := HL.out; omega)).mono ?_
  rintro e u' w9 ⟨rfl, rfl, P9, Q9, t9⟩
  exact ⟨_, results_cc rfl _ _ p q 36 39 _ _ (0, 0) (0, 0) _ _ rfl P9 Tryd.underlying36 rfl (by kernel_rfl) rfl Q9 Tryd.underlying39 rfl (by kernel_rfl), rfl, T2.out.trans t9 (fun i hi e => by have := HL.out; omega)⟩

set_option maxRecDepth 100000 in
set_option maxHeartbeats 4000000 in
theorem whole_tree (b : Nat) (s : ByteArray) (x : JV) (u : Nat) (w : World) (h : Ps w b s 0 0) (hs : s.size ≤ 1048576) (hu : u ≤ s.size) (htb : Tabs w)
    (K : ∀ w', Ps w' b s 0 0 → Tabs w' → Calls Tryd.prog 24 #[.pointer (some ⟨b, 0, none⟩)] w' fun e w'' => ValP s b 0 w' (.ok (x, u)) e w'') :
    Calls Tryd.prog 14 #[.pointer (some ⟨b, 0, none⟩)] w fun e w' => WholeP b w (endsE s (.ok (x, u))) e w' := by
  obtain ⟨X, hX⟩ : ∃ X, X = endsE s (.ok (x, u)) := ⟨_, rfl⟩
  rw [← hX]
  have HW := hid (show (u = s.size → ∀ k t a2 n2 c2 a3 n3 c3 B w', TV w' B ⟨k, t, .slice a2 n2 c2, .slice a3 n3 c3⟩ x → (∀ g, B g → w.heap.size ≤ g ∧ g < w'.heap.size) → Touch (fun k => k = b) w w' → WholeP b w X (.returned (.tuple #[.agg #[.int .i64 k, .string t, .slice a2 n2 c2, .slice a3 n3 c3], fV 0 0])) w') ∧
    (¬ u = s.size → ∀ w', Touch (fun k => k = b) w w' → WholeP b w X (.returned (.tuple #[zV, fV 20 u])) w') from by
    rw [hX]
    refine ⟨fun e k t a2 n2 c2 a3 n3 c3 B w' h1 h2 h3 => ?_, fun e w' h1 => ?_⟩
    · rw [show endsE s (.ok (x, u)) = .ok x from if_pos e]
      exact ⟨k, t, a2, n2, c2, a3, n3, c3, B, rfl, h1, h2, h3⟩
    · rw [show endsE s (.ok (x, u)) = .error (20, u) from if_neg e]
      exact ⟨rfl, h1⟩)
  clear hX
  have KL := hid (fun w' (hp : Ps w' b s u 0) => look_any b s u 0 w' hp hs hu)
  have KW := hid (fun w' (hp : Ps w' b s u 0) => wrong_any b s u 0 20 w' hp)
  unfold thrown at KW
  have HE := hid (show u = s.size ↔ lk s u = -1 from by
    unfold lk
    constructor
    · intro e
      rw [List.getElem?_eq_none (by rw [size_list]; omega)]
    · intro e
      by_cases hl : u < s.size
      · rw [at_opt s u hl] at e
        simp only at e
        omega
      · omega)
  have hmf : ∀ (fn : Fn) (first cap : Array Value) (w : World), (Instr.makeFunc fn first cap).run Tryd.prog w = .ok (.func fn first cap) w := fun _ _ _ _ => rfl
  have B := hid (begin2 h.lt)
  have H0 := hid (h.new B.out.2.2.1)
  have KH := hid K
  have HTB := hid (htb.new B.out.2.2.1)
  clear K h htb
  skip
  go_enter_defers Tryd.func14, Tryd.ntmps14
  go_upto_region 2 with fail
  generalize (w.alloc (.cells #[.int .i64 0, .string ⟨#[]⟩, .slice none 0 0, .slice none 0 0] 36)).alloc (.cells #[.int .i64 0, .int .i64 0] 39) = w1 at *
  obtain ⟨BA, BB, T1, L⟩ := B.out
  clear B
  replace BA := hid BA
  replace BB := hid BB
  replace T1 := hid T1
  obtain ⟨p, hp⟩ : ∃ p, p = w.heap.size := ⟨_, rfl⟩
  obtain ⟨q, hq⟩ : ∃ q, q = w.heap.size + 1 := ⟨_, rfl⟩
  have HL := hid (show b < p ∧ w.heap.size ≤ p ∧ p < q from by rw [hp, hq]; exact L)
  clear L
  rw [← hq] at BB ⊢
  rw [← hp] at BA ⊢
  clear hp hq
  go_wp2_with fail
  refine (KH.out w1 H0.out HTB.out).mono ?_
  rintro e w2 ⟨vk, vt, a2, n2, c2, a3, n3, c3, BS, rfl, tv, hB, hp2, tt⟩
  have TV2 := hid tv
  have HBB := hid hB
  have HPQ := hid (show p < w1.heap.size ∧ q < w1.heap.size ∧ b < w1.heap.size from ⟨lt_of_block BA.out, lt_of_block BB.out, H0.out.lt⟩)
  have TS1 := hid T1.out.size
  clear tv hB
  have P2 := hid ((tt.block p (lt_of_block BA.out) (fun e => by have := HL.out; omega)).trans BA.out)
  have Q2 := hid ((tt.block q (lt_of_block BB.out) (fun e => by have := HL.out; omega)).trans BB.out)
  have T2 := hid (Touch.trans (S := fun k => k = b) (T1.out.mono (fun _ _ e => e.elim)) tt (fun _ _ e => e))
  have H2 := hid hp2
  clear tt KH H0 BA BB T1
  have p2 := P2.out
  have ca0 : w2.cell? ⟨p, 0, none⟩ = some (.int .i64 0) := by simp [World.cell?, p2]
  have ca1 : w2.cell? ⟨p, 1, none⟩ = some (.string ⟨#[]⟩) := by simp [World.cell?, p2]
  have ca2 : w2.cell? ⟨p, 2, none⟩ = some (.slice none 0 0) := by simp [World.cell?, p2]
  have ca3 : w2.cell? ⟨p, 3, none⟩ = some (.slice none 0 0) := by simp [World.cell?, p2]
  have e0 : w2.frozen? ⟨p, 0, none⟩ = false := by simp [World.frozen?, p2]
  have e1 : w2.frozen? ⟨p, 1, none⟩ = false := by simp [World.frozen?, p2]
  have e2 : w2.frozen? ⟨p, 2, none⟩ = false := by simp [World.frozen?, p2]
  have e3 : w2.frozen? ⟨p, 3, none⟩ = false := by simp [World.frozen?, p2]
  clear p2 hp2
  go_upto_region 3 with fail
  have P3 := hid (jfour_set P2.out (.int .i64 vk) (.string vt) (.slice a2 n2 c2) (.slice a3 n3 c3))
  have H3 := hid (H2.out.four (q := p) (by have := HL.out; omega) (.int .i64 vk) (.string vt) (.slice a2 n2 c2) (.slice a3 n3 c3))
  have T3 := hid (jfour_touch T2.out (q := p) (by have := HL.out; omega) (.int .i64 vk) (.string vt) (.slice a2 n2 c2) (.slice a3 n3 c3))
  have Q3 := hid (show ((((w2.setCell ⟨p, 0, none⟩ (.int .i64 vk)).setCell ⟨p, 1, none⟩ (.string vt)).setCell ⟨p, 2, none⟩ (.slice a2 n2 c2)).setCell ⟨p, 3, none⟩ (.slice a3 n3 c3)).heap[q]? = some (.cells #[.int .i64 0, .int .i64 0] 39 (0, 0)) from by
    have n6 : q ≠ p := by have := HL.out; omega
    rw [Below.heap_setCell _ _ _ _ n6, Below.heap_setCell _ _ _ _ n6, Below.heap_setCell _ _ _ _ n6, Below.heap_setCell _ _ _ _ n6]
    exact Q2.out)
  have TF3 := touch_four (S := fun k => k = p) (g := p) (Touch.refl _ w2) (fun _ => rfl) 0 1 2 3 (.int .i64 vk) (.string vt) (.slice a2 n2 c2) (.slice a3 n3 c3)
  have TV3 := hid (TV2.out.kept TF3 (fun g e e2 => by have := HBB.out g e; have := HPQ.out; omega))
  have SZ3 := hid TF3.size
  clear TV2 TF3
  generalize (((w2.setCell ⟨p, 0, none⟩ (.int .i64 vk)).setCell ⟨p, 1, none⟩ (.string vt)).setCell ⟨p, 2, none⟩ (.slice a2 n2 c2)).setCell ⟨p, 3, none⟩ (.slice a3 n3 c3) = w3 at *
  clear ca0 ca1 ca2 ca3 e0 e1 e2 e3 P2 H2 T2 Q2
  go_wp2_with fail
  refine (KL.out w3 H3.out).mono ?_
  rintro e w4 ⟨rfl, tt⟩
  have P4 := hid ((tt.block p (lt_of_block P3.out) id).trans P3.out)
  have Q4 := hid ((tt.block q (lt_of_block Q3.out) id).trans Q3.out)
  have T4 := hid (T3.out.trans tt (fun _ _ e => e.elim))
  have H4 := hid (H3.out.new tt)
  have TV4 := hid (TV3.out.kept tt (fun g e e2 => e2))
  have SZ4 := hid tt.size
  clear TV3
  clear tt KL P3 Q3 T3 H3
  by_cases hend : lk s u = -1
  · have HU := hid (HE.out.2 hend)
    have hB : ((lk s u) != (-1 : Int)) = false := by simpa using hend
    generalize lk s u = x at *
    subst hend
    clear KW HE
    have p4 := P4.out
    have q4 := Q4.out
    have ca0 : w4.cell? ⟨p, 0, none⟩ = some (.int .i64 vk) := by simp [World.cell?, p4]
    have ca1 : w4.cell? ⟨p, 1, none⟩ = some (.string vt) := by simp [World.cell?, p4]
    have ca2 : w4.cell? ⟨p, 2, none⟩ = some (.slice a2 n2 c2) := by simp [World.cell?, p4]
    have ca3 : w4.cell? ⟨p, 3, none⟩ = some (.slice a3 n3 c3) := by simp [World.cell?, p4]
    have e0 : w4.frozen? ⟨p, 0, none⟩ = false := by simp [World.frozen?, p4]
    have e1 : w4.frozen? ⟨p, 1, none⟩ = false := by simp [World.frozen?, p4]
    have e2 : w4.frozen? ⟨p, 2, none⟩ = false := by simp [World.frozen?, p4]
    have e3 : w4.frozen? ⟨p, 3, none⟩ = false := by simp [World.frozen?, p4]
    have g0 : w4.cell? ⟨q, 0, none⟩ = some (.int .i64 0) := by simp [World.cell?, q4]
    have g1 : w4.cell? ⟨q, 1, none⟩ = some (.int .i64 0) := by simp [World.cell?, q4]
    have f0 : w4.frozen? ⟨q, 0, none⟩ = false := by simp [World.frozen?, q4]
    have f1 : w4.frozen? ⟨q, 1, none⟩ = false := by simp [World.frozen?, q4]
    clear p4 q4
    have n5 : ¬ p = q := by have := HL.out; omega
    have n6 : ¬ q = p := by have := HL.out; omega
    go_wp2
    clear ca0 ca1 ca2 ca3 e0 e1 e2 e3 g0 g1 f0 f1
    have P5 := jfour_set P4.out (.int .i64 vk) (.string vt) (.slice a2 n2 c2) (.slice a3 n3 c3)
    have T5 := jfour_touch T4.out (q := p) (by have := HL.out; omega) (.int .i64 vk) (.string vt) (.slice a2 n2 c2) (.slice a3 n3 c3)
    have Q5 : ((((w4.setCell ⟨p, 0, none⟩ (.int .i64 vk)).setCell ⟨p, 1, none⟩ (.string vt)).setCell ⟨p, 2, none⟩ (.slice a2 n2 c2)).setCell ⟨p, 3, none⟩ (.slice a3 n3 c3)).heap[q]? = some (.cells #[.int .i64 0, .int .i64 0] 39 (0, 0)) := by
      rw [Below.heap_setCell _ _ _ _ n6, Below.heap_setCell _ _ _ _ n6, Below.heap_setCell _ _ _ _ n6, Below.heap_setCell _ _ _ _ n6]
      exact Q4.out
    have TF5 := touch_four (S := fun k => k = p) (g := p) (Touch.refl _ w4) (fun _ => rfl) 0 1 2 3 (.int .i64 vk) (.string vt) (.slice a2 n2 c2) (.slice a3 n3 c3)
    have TV5 := TV4.out.kept TF5 (fun g e e2 => by have := HBB.out g e; have := HPQ.out; omega)
    have SZ5 := TF5.size
    clear TF5
    generalize (((w4.setCell ⟨p, 0, none⟩ (.int .i64 vk)).setCell ⟨p, 1, none⟩ (.string vt)).setCell ⟨p, 2, none⟩ (.slice a2 n2 c2)).setCell ⟨p, 3, none⟩ (.slice a3 n3 c3) = w5 at *
    have P6 : ((w5.setCell ⟨q, 0, none⟩ (.int .i64 0)).setCell ⟨q, 1, none⟩ (.int .i64 0)).heap[p]? = some (.cells #[.int .i64 vk, .string vt, .slice a2 n2 c2, .slice a3 n3 c3] 36 (0, 0)) := by
      rw [Below.heap_setCell _ _ _ _ n5, Below.heap_setCell _ _ _ _ n5]
      exact P5
    have Q6 := jtwo_set Q5 (.int .i64 0) (.int .i64 0)
    have T6 := (T5.setCell (p := ⟨q, 0, none⟩) (fun h => absurd h (by have := HL.out; dsimp only; omega)) (.int .i64 0)).setCell (p := ⟨q, 1, none⟩) (fun h => absurd h (by have := HL.out; dsimp only; omega)) (.int .i64 0)
    have TF6 := (Touch.setCell (S := fun k => k = q) (Touch.refl _ w5) (p := ⟨q, 0, none⟩) (fun _ => rfl) (.int .i64 0)).setCell (p := ⟨q, 1, none⟩) (fun _ => rfl) (.int .i64 0)
    have TV6 := TV5.kept TF6 (fun g e e2 => by have := HBB.out g e; have := HPQ.out; omega)
    have SZ6 := TF6.size
    clear TF6
    generalize (w5.setCell ⟨q, 0, none⟩ (.int .i64 0)).setCell ⟨q, 1, none⟩ (.int .i64 0) = w6 at *
    refine leaves_cons (f := 23) (args := #[.pointer (some ⟨p, 0, none⟩), .pointer (some ⟨q, 0, none⟩)]) (by simp) (by simp [go_sem]) ?_
    refine (catch_idle ⟨p, 0, none⟩ ⟨q, 0, none⟩ w6).mono ?_
    rintro e u' w9 ⟨rfl, rfl, rfl⟩
    exact ⟨_, results_cc rfl _ _ p q 36 39 _ _ (0, 0) (0, 0) _ _ rfl P6 Tryd.underlying36 rfl (by kernel_rfl) rfl Q6 Tryd.underlying39 rfl (by kernel_rfl), HW.out.1 HU.out vk vt a2 n2 c2 a3 n3 c3 BS _ TV6 (fun g e => by have := HBB.out g e; have := TS1.out; have := SZ3.out; have := SZ4.out; exact ⟨by omega, by omega⟩) T6⟩
  · have HU := hid (fun e => hend (HE.out.1 e))
    have hB : ((lk s u) != (-1 : Int)) = true := by simpa using hend
    generalize lk s u = x at *
    have KW4 := hid (KW.out w4 H4.out)
    clear KW HE
    go_wp2_with fail
    refine KW4.out.mono ?_
    rintro e w5 ⟨rfl, tt⟩
    have P5 := hid ((tt.block p (lt_of_block P4.out) id).trans P4.out)
    have Q5 := hid ((tt.block q (lt_of_block Q4.out) id).trans Q4.out)
    have T5 := hid (T4.out.trans tt (fun _ _ e => e.elim))
    clear tt KW4 P4 Q4 T4 H4
    go_wp2
    refine leaves_cons (f := 23) (args := #[.pointer (some ⟨p, 0, none⟩), .pointer (some ⟨q, 0, none⟩)]) (by simp) (by simp [go_sem]) ?_
    refine (catch_thrown p q 20 u [] w5 _ _ _ _ _ _ P5.out Q5.out (by have := HL.out; omega)).mono ?_
    rintro e u' w9 ⟨rfl, rfl, P9, Q9, t9⟩
    exact ⟨_, results_cc rfl _ _ p q 36 39 _ _ (0, 0) (0, 0) _ _ rfl P9 Tryd.underlying36 rfl (by kernel_rfl) rfl Q9 Tryd.underlying39 rfl (by kernel_rfl), HW.out.2 HU.out _ (T5.out.trans t9 (fun i hi e => by have := HL.out; omega))⟩
theorem whole_any (b : Nat) (s : ByteArray) (w : World) (h : Ps w b s 0 0) (hs : s.size ≤ 1048576) (hb2 : 2 ≤ b) (htb : Tabs w) :
    Calls Tryd.prog 14 #[.pointer (some ⟨b, 0, none⟩)] w fun e w' => WholeP b w (wholeE s) e w' := by
  have K := fun w' (hp : Ps w' b s 0 0) (ht' : Tabs w') => value_any b s hs hb2 32 0 0 w' (by decide) hp (Nat.zero_le _) ht'
  unfold wholeE
  cases hR : valF s 32 0 with
  | error e0 =>
    obtain ⟨c, k⟩ := e0
    rw [hR] at K
    exact whole_badT b s c k w h htb K
  | ok p =>
    obtain ⟨x, u⟩ := p
    rw [hR] at K
    exact whole_tree b s x u w h hs (valF_fwd s 32 0 x u (Nat.zero_le _) hR).2 htb K
end Go.Proofs.YtjpmjcadnnglnaaDoor

/- A parser of JSON: Parse, of a text that is UTF-8; conditions: as told. -/
namespace Go.Proofs.YtjpmjcadnnglnaaDoor
open Go.RowKit
open Go.Lib

def ParP (w : World) : JR JV → Ending → World → Prop
  | .ok x, e, w' => ∃ k t a2 n2 c2 a3 n3 c3 B, e = .returned (.tuple #[.agg #[.int .i64 k, .string t, .slice a2 n2 c2, .slice a3 n3 c3], .agg #[.int .i64 0, .int .i64 0]]) ∧ TV w' B ⟨k, t, .slice a2 n2 c2, .slice a3 n3 c3⟩ x ∧ (∀ g, B g → w.heap.size ≤ g ∧ g < w'.heap.size) ∧ Touch (fun _ => False) w w'
  | .error (c, k), e, w' => e = .returned (.tuple #[zV, fV c k]) ∧ Touch (fun _ => False) w w'
set_option maxRecDepth 100000 in
set_option maxHeartbeats 4000000 in
theorem parse_good (s : ByteArray) (w : World) (ht : Tabs w) (hs : s.size ≤ 1048576)
    (KD : ∀ w, Tabs w → Calls Tryd.prog 13 #[.string (xs s), .int .i64 1, .bool true] w fun e w' => ∃ a1 n1 c1 a2 n2 c2 bd, e = .returned (.tuple #[.agg #[.int .i64 1, .slice a1 n1 c1, .slice a2 n2 c2, .int .i64 bd], .agg #[.int .i64 0, .int .i64 0]]) ∧ Touch (fun _ => False) w w') :
    Calls Tryd.prog 7 #[.string s] w fun e w' => ParP w (wholeE s) e w' := by
  have hsI : ¬ (1048576 : Int) < (s.size : Int) := by omega
  have K1 := hid KD
  have K2 := hid (fun b w' (hp : Ps w' b s 0 0) (hb2 : 2 ≤ b) (ht' : Tabs w') => whole_any b s w' hp hs hb2 ht')
  obtain ⟨X, hX⟩ : ∃ X, X = wholeE s := ⟨_, rfl⟩
  have HX := hid hX.symm
  rw [← hX]
  clear KD hX
  unfold xs at K1
  have B := hid (begin2 (w := w) (b := 0) (by have := ht.two; omega))
  have HT := hid (ht.new B.out.2.2.1)
  clear ht
  go_enter Tryd.func7, Tryd.ntmps7
  go_upto_region 1 with fail
  generalize (w.alloc (.cells #[.int .i64 0, .string ⟨#[]⟩, .slice none 0 0, .slice none 0 0] 36)).alloc (.cells #[.int .i64 0, .int .i64 0] 39) = w1 at *
  obtain ⟨BA, BB, T1, L⟩ := B.out
  clear B
  replace BA := hid BA
  replace BB := hid BB
  replace T1 := hid T1
  obtain ⟨p, hp⟩ : ∃ p, p = w.heap.size := ⟨_, rfl⟩
  obtain ⟨q, hq⟩ : ∃ q, q = w.heap.size + 1 := ⟨_, rfl⟩
  have HL := hid (show w.heap.size ≤ p ∧ w.heap.size ≤ q ∧ p < q from by rw [hp, hq]; exact ⟨Nat.le_refl _, by omega, by omega⟩)
  clear L
  rw [← hq] at BB ⊢
  rw [← hp] at BA ⊢
  clear hp hq
  go_wp2_with fail
  refine (K1.out w1 HT.out).mono ?_
  rintro e w2 ⟨b1, m1, d1, b2, m2, d2, bd, rfl, tt⟩
  have P2 := hid ((tt.block p (lt_of_block BA.out) id).trans BA.out)
  have Q2 := hid ((tt.block q (lt_of_block BB.out) id).trans BB.out)
  have T2 := hid (T1.out.trans tt (fun _ _ e => e))
  have HT2 := hid (HT.out.new tt)
  clear tt K1 BA BB T1 HT
  go_upto_region 4 with fail
  have TA := (Touch.refl (fun _ => False) w2).alloc (.cells #[.int .i64 1, .slice b1 m1 d1, .slice b2 m2 d2, .int .i64 bd] 56) |>.alloc (.cells #[.int .i64 0, .int .i64 0] 39)
  have BR := hid (jtwo_new (w := w2.alloc (.cells #[.int .i64 1, .slice b1 m1 d1, .slice b2 m2 d2, .int .i64 bd] 56)) (.int .i64 0) (.int .i64 0) 39)
  rw [size_alloc1] at BR
  have HT3 := hid (HT2.out.new TA)
  have P3 := hid ((TA.block p (lt_of_block P2.out) id).trans P2.out)
  have Q3 := hid ((TA.block q (lt_of_block Q2.out) id).trans Q2.out)
  have T3 := hid (T2.out.trans TA (fun _ _ e => e))
  clear TA P2 Q2 T2
  generalize (w2.alloc (.cells #[.int .i64 1, .slice b1 m1 d1, .slice b2 m2 d2, .int .i64 bd] 56)).alloc (.cells #[.int .i64 0, .int .i64 0] 39) = w3 at *
  generalize w2.heap.size + 1 = r at *
  obtain ⟨⟨r0, r1⟩, _⟩ := cells2 BR.out
  clear BR
  go_upto_region 7 with fail
  have TA := (Touch.refl (fun _ => False) w3).alloc (.cells #[.string s, .int .i64 0, .int .i64 0] 60)
  have H4 := hid (show Ps (w3.alloc (.cells #[.string s, .int .i64 0, .int .i64 0] 60)) w3.heap.size s 0 0 from by
    show (w3.heap.push _)[_]? = _
    simp)
  have HT4 := hid (HT3.out.new TA)
  have HB2 := hid HT3.out.two
  have P4 := hid ((TA.block p (lt_of_block P3.out) id).trans P3.out)
  have Q4 := hid ((TA.block q (lt_of_block Q3.out) id).trans Q3.out)
  have T4 := hid (T3.out.trans TA (fun _ _ e => e))
  have HB := hid (show p < w3.heap.size ∧ q < w3.heap.size ∧ w.heap.size ≤ w3.heap.size from ⟨lt_of_block P3.out, lt_of_block Q3.out, T3.out.size⟩)
  clear TA P3 Q3 T3 r0 r1
  generalize w3.alloc (.cells #[.string s, .int .i64 0, .int .i64 0] 60) = w4 at *
  generalize w3.heap.size = b at *
  match hR : wholeE s with
  | .error (fc, fk) =>
  rw [hR] at K2 HX
  clear hR
  unfold WholeP zV fV at K2
  go_wp2_with fail
  refine (K2.out b w4 H4.out HB2.out HT4.out).mono ?_
  rintro e w5 ⟨rfl, tt⟩
  have P5 := hid ((tt.block p (lt_of_block P4.out) (fun e => by have := HB.out; omega)).trans P4.out)
  have Q5 := hid ((tt.block q (lt_of_block Q4.out) (fun e => by have := HB.out; omega)).trans Q4.out)
  have T5 := hid (Touch.trans (S := fun _ => False) T4.out tt (fun i hi e => by have := HB.out; omega))
  have HPQ := hid (show p < w4.heap.size ∧ q < w4.heap.size from ⟨lt_of_block P4.out, lt_of_block Q4.out⟩)
  have TS4 := hid T4.out.size
  clear tt K2 P4 Q4 T4 H4
  obtain ⟨⟨a0, a1, a2, a3⟩, ⟨e0, e1, e2, e3⟩⟩ := cells4 P5.out
  obtain ⟨⟨g0, g1⟩, ⟨f0, f1⟩⟩ := cells2 Q5.out
  have n5 : ¬ p = q := by have := HL.out; omega
  have n6 : ¬ q = p := by have := HL.out; omega
  go_wp2
  rw [← HX.out]
  have R := both_set P5.out Q5.out n5 (.int .i64 0) (.string ⟨#[]⟩) (.slice none 0 0) (.slice none 0 0) (.int .i64 (fc : Nat)) (.int .i64 (fk : Nat))
  have T := both_touch T5.out HL.out.1 HL.out.2.1 (.int .i64 0) (.string ⟨#[]⟩) (.slice none 0 0) (.slice none 0 0) (.int .i64 (fc : Nat)) (.int .i64 (fk : Nat))
  exact bodyPost_ret (results_cc rfl _ _ p q 36 39 _ _ (0, 0) (0, 0) _ _ rfl R.1 Tryd.underlying36 rfl (by kernel_rfl) rfl R.2 Tryd.underlying39 rfl (by kernel_rfl)) rfl ⟨rfl, T⟩
  | .ok x =>
  rw [hR] at K2 HX
  clear hR
  unfold WholeP fV at K2
  go_wp2_with fail
  refine (K2.out b w4 H4.out HB2.out HT4.out).mono ?_
  rintro e w5 ⟨vk, vt, a2', n2, c2, a3', n3, c3, BS, rfl, tv, hB, tt⟩
  have TV5 := hid tv
  have HBB := hid hB
  clear tv hB
  have P5 := hid ((tt.block p (lt_of_block P4.out) (fun e => by have := HB.out; omega)).trans P4.out)
  have Q5 := hid ((tt.block q (lt_of_block Q4.out) (fun e => by have := HB.out; omega)).trans Q4.out)
  have T5 := hid (Touch.trans (S := fun _ => False) T4.out tt (fun i hi e => by have := HB.out; omega))
  have HPQ := hid (show p < w4.heap.size ∧ q < w4.heap.size from ⟨lt_of_block P4.out, lt_of_block Q4.out⟩)
  have TS4 := hid T4.out.size
  clear tt K2 P4 Q4 T4 H4
  obtain ⟨⟨a0, a1, a2, a3⟩, ⟨e0, e1, e2, e3⟩⟩ := cells4 P5.out
  obtain ⟨⟨g0, g1⟩, ⟨f0, f1⟩⟩ := cells2 Q5.out
  have n5 : ¬ p = q := by have := HL.out; omega
  have n6 : ¬ q = p := by have := HL.out; omega
  go_wp2
  rw [← HX.out]
  have TF := (((touch_four (S := fun k => k = p ∨ k = q) (g := p) (Touch.refl _ w5) (fun _ => .inl rfl) 0 1 2 3 (.int .i64 vk) (.string vt) (.slice a2' n2 c2) (.slice a3' n3 c3)).setCell (p := ⟨q, 0, none⟩) (fun _ => .inr rfl) (.int .i64 0)).setCell (p := ⟨q, 1, none⟩) (fun _ => .inr rfl) (.int .i64 0))
  have TVF := TV5.out.kept TF (fun g e e2 => by have := HBB.out g e; have := HPQ.out; omega)
  have R := both_set P5.out Q5.out n5 (.int .i64 vk) (.string vt) (.slice a2' n2 c2) (.slice a3' n3 c3) (.int .i64 0) (.int .i64 0)
  have T := both_touch T5.out HL.out.1 HL.out.2.1 (.int .i64 vk) (.string vt) (.slice a2' n2 c2) (.slice a3' n3 c3) (.int .i64 0) (.int .i64 0)
  exact bodyPost_ret (results_cc rfl _ _ p q 36 39 _ _ (0, 0) (0, 0) _ _ rfl R.1 Tryd.underlying36 rfl (by kernel_rfl) rfl R.2 Tryd.underlying39 rfl (by kernel_rfl)) rfl ⟨vk, vt, a2', n2, c2, a3', n3, c3, BS, rfl, TVF, fun g e => by have := HBB.out g e; have := TS4.out; have := TF.size; exact ⟨by omega, by omega⟩, T⟩
end Go.Proofs.YtjpmjcadnnglnaaDoor

/- A parser of JSON: Parse, of a text that is no UTF-8; conditions: as told. -/
namespace Go.Proofs.YtjpmjcadnnglnaaDoor
open Go.RowKit
open Go.Lib

set_option maxRecDepth 100000 in
set_option maxHeartbeats 1000000 in
theorem parse_bad (s : ByteArray) (i : Nat) (w : World) (ht : Tabs w) (hs : s.size ≤ 1048576) (hi : 1 ≤ i) (hi2 : i ≤ 1048577)
    (KD : ∀ w, Tabs w → Calls Tryd.prog 13 #[.string (xs s), .int .i64 1, .bool true] w fun e w' => e = .returned (.tuple #[.agg #[.int .i64 0, .slice none 0 0, .slice none 0 0, .int .i64 0], .agg #[.int .i64 17, .int .i64 (i : Nat)]]) ∧ Touch (fun _ => False) w w') :
    Calls Tryd.prog 7 #[.string s] w fun e w' => e = .returned (.tuple #[zV, fV 17 (i - 1)]) ∧ Touch (fun _ => False) w w' := by
  have hsI : ¬ (1048576 : Int) < (s.size : Int) := by omega
  have K1 := hid KD
  clear KD
  unfold xs at K1
  have B := hid (begin2 (w := w) (b := 0) (by have := ht.two; omega))
  have HT := hid (ht.new B.out.2.2.1)
  clear ht
  go_enter Tryd.func7, Tryd.ntmps7
  go_upto_region 1 with fail
  generalize (w.alloc (.cells #[.int .i64 0, .string ⟨#[]⟩, .slice none 0 0, .slice none 0 0] 36)).alloc (.cells #[.int .i64 0, .int .i64 0] 39) = w1 at *
  obtain ⟨BA, BB, T1, L⟩ := B.out
  clear B
  replace BA := hid BA
  replace BB := hid BB
  replace T1 := hid T1
  obtain ⟨p, hp⟩ : ∃ p, p = w.heap.size := ⟨_, rfl⟩
  obtain ⟨q, hq⟩ : ∃ q, q = w.heap.size + 1 := ⟨_, rfl⟩
  have HL := hid (show w.heap.size ≤ p ∧ w.heap.size ≤ q ∧ p < q from by rw [hp, hq]; exact ⟨Nat.le_refl _, by omega, by omega⟩)
  clear L
  rw [← hq] at BB ⊢
  rw [← hp] at BA ⊢
  clear hp hq
  go_wp2_with fail
  refine (K1.out w1 HT.out).mono ?_
  rintro e w2 ⟨rfl, tt⟩
  have P2 := hid ((tt.block p (lt_of_block BA.out) id).trans BA.out)
  have Q2 := hid ((tt.block q (lt_of_block BB.out) id).trans BB.out)
  have T2 := hid (T1.out.trans tt (fun _ _ e => e))
  have HT2 := hid (HT.out.new tt)
  clear tt K1 BA BB T1 HT
  go_upto_region 4 with fail
  have TA := (Touch.refl (fun _ => False) w2).alloc (.cells #[.int .i64 0, .slice none 0 0, .slice none 0 0, .int .i64 0] 56) |>.alloc (.cells #[.int .i64 17, .int .i64 (i : Nat)] 39)
  have BR := hid (jtwo_new (w := w2.alloc (.cells #[.int .i64 0, .slice none 0 0, .slice none 0 0, .int .i64 0] 56)) (.int .i64 17) (.int .i64 (i : Nat)) 39)
  rw [size_alloc1] at BR
  have HT3 := hid (HT2.out.new TA)
  have P3 := hid ((TA.block p (lt_of_block P2.out) id).trans P2.out)
  have Q3 := hid ((TA.block q (lt_of_block Q2.out) id).trans Q2.out)
  have T3 := hid (T2.out.trans TA (fun _ _ e => e))
  have HPR := hid (show p < w2.heap.size + 1 ∧ q < w2.heap.size + 1 from ⟨Nat.lt_succ_of_lt (lt_of_block P2.out), Nat.lt_succ_of_lt (lt_of_block Q2.out)⟩)
  clear TA P2 Q2 T2
  generalize (w2.alloc (.cells #[.int .i64 0, .slice none 0 0, .slice none 0 0, .int .i64 0] 56)).alloc (.cells #[.int .i64 17, .int .i64 (i : Nat)] 39) = w3 at *
  generalize w2.heap.size + 1 = r at *
  obtain ⟨⟨r0, r1⟩, _⟩ := cells2 BR.out
  clear BR
  obtain ⟨⟨a0, a1, a2, a3⟩, ⟨e0, e1, e2, e3⟩⟩ := cells4 P3.out
  obtain ⟨⟨g0, g1⟩, ⟨f0, f1⟩⟩ := cells2 Q3.out
  have n5 : ¬ p = q := by have := HL.out; omega
  have n6 : ¬ q = p := by have := HL.out; omega
  have n7 : ¬ p = r := by have := HPR.out; omega
  have n8 : ¬ r = p := by have := HPR.out; omega
  have n9 : ¬ q = r := by have := HPR.out; omega
  have n10 : ¬ r = q := by have := HPR.out; omega
  have hwr : IntKind.i64.wrap ((i : Int) - 1) = (i : Int) - 1 := wrap_small _ (by omega) (by omega)
  have hI : ((i - 1 : Nat) : Int) = (i : Int) - 1 := by omega
  go_upto_region 5 with fail
  go_region
  all_goals
    clear a0 a1 a2 a3 e0 e1 e2 e3 g0 g1 f0 f1 r0 r1
    go_wp2
    have R := both_set P3.out Q3.out n5 (.int .i64 0) (.string ⟨#[]⟩) (.slice none 0 0) (.slice none 0 0) (.int .i64 17) (.int .i64 ((i : Int) - 1))
    have T := both_touch T3.out HL.out.1 HL.out.2.1 (.int .i64 0) (.string ⟨#[]⟩) (.slice none 0 0) (.slice none 0 0) (.int .i64 17) (.int .i64 ((i : Int) - 1))
    generalize (((((w3.setCell ⟨p, 0, none⟩ (.int .i64 0)).setCell ⟨p, 1, none⟩ (.string ⟨#[]⟩)).setCell ⟨p, 2, none⟩ (.slice none 0 0)).setCell ⟨p, 3, none⟩ (.slice none 0 0)).setCell ⟨q, 0, none⟩ (.int .i64 17)).setCell ⟨q, 1, none⟩ (.int .i64 ((i : Int) - 1)) = w6 at *
    have R1 : w6.drew.heap[p]? = some (.cells #[.int .i64 0, .string ⟨#[]⟩, .slice none 0 0, .slice none 0 0] 36 (0, 0)) := R.1
    have R2 : w6.drew.heap[q]? = some (.cells #[.int .i64 17, .int .i64 ((i : Int) - 1)] 39 (0, 0)) := R.2
    exact bodyPost_ret (results_cc rfl _ _ p q 36 39 _ _ (0, 0) (0, 0) _ _ rfl R1 Tryd.underlying36 rfl (by kernel_rfl) rfl R2 Tryd.underlying39 rfl (by kernel_rfl)) rfl ⟨by unfold zV fV; rw [hI]; rfl, T.drew⟩
end Go.Proofs.YtjpmjcadnnglnaaDoor

/- A parser of JSON: Parse, of any text; conditions: as told. -/
namespace Go.Proofs.YtjpmjcadnnglnaaDoor
open Go.RowKit
open Go.Lib

/-- The place of the first byte that is no UTF-8; one more than that. -/
def decB (s : ByteArray) : Option Nat := (dcGo (xs s) 1 true (xs s).size 0 [] [] 0).1
theorem dc_ge (s : ByteArray) (c : Nat) (st : Bool) : ∀ (k i : Nat) (rs ps : List Int) (bad j : Nat), (dcGo s c st k i rs ps bad).1 = some j → i ≤ j ∧ j < s.size
  | 0, i, rs, ps, bad, j, h => by
    unfold dcGo at h
    cases h
  | k + 1, i, rs, ps, bad, j, h => by
    unfold dcGo at h
    split at h
    · rename_i hi
      split at h
      · split at h
        · cases h
          omega
        · have := dc_ge s c st k _ _ _ _ j h
          omega
      · have := dc_ge s c st k _ _ _ _ j h
        omega
    · cases h
theorem dec_pos {s : ByteArray} {j : Nat} (h : decB s = some j) : 1 ≤ j ∧ j ≤ s.size := by
  unfold decB at h
  have h2 := dc_ge _ _ _ _ _ _ _ _ j h
  rw [xs_size] at h2
  refine ⟨?_, by omega⟩
  rw [xs_size, dc_step (by rw [xs_size]; omega), tk_ascii _ 0 (by rw [xs_size]; omega) (by rw [xs_zero]; omega), xs_zero] at h
  rw [if_neg (by decide)] at h
  exact (dc_ge _ _ _ _ _ _ _ _ j h).1
def parE (s : ByteArray) : JR JV := if 1048576 < s.size then .error (2, 0) else match decB s with
  | some i => .error (17, i - 1)
  | none => wholeE s
theorem parse_any (s : ByteArray) (w : World) (ht : Tabs w) : Calls Tryd.prog 7 #[.string s] w fun e w' => ParP w (parE s) e w' := by
  unfold parE
  by_cases hs : 1048576 < s.size
  · rw [if_pos hs]
    exact parse_long s w ht hs
  rw [if_neg hs]
  have hs' : s.size ≤ 1048576 := by omega
  have k := fun w (ht : Tabs w) => decode_any (xs s) 1 true w ht (by rw [xs_size]; omega) (by decide)
  rw [xs_bg] at k
  cases hd : decB s with
  | some i =>
    have hi := dec_pos hd
    refine parse_bad s i w ht hs' hi.1 (by omega) ?_
    intro w ht
    refine (k w ht).mono ?_
    intro e w' h
    rcases h with ⟨j, h1, h2⟩ | ⟨h1, _⟩
    · have e1 : decB s = some j := h1
      rw [hd] at e1
      cases e1
      exact ⟨h2.ret, h2.touch⟩
    · have e1 : decB s = none := h1
      rw [hd] at e1
      cases e1
  | none =>
    refine parse_good s w ht hs' ?_
    intro w ht
    refine (k w ht).mono ?_
    intro e w' h
    rcases h with ⟨j, h1, h2⟩ | ⟨h1, h2⟩
    · have e1 : decB s = some j := h1
      rw [hd] at e1
      cases e1
    · obtain ⟨v1, v2, he, o1, o2⟩ := h2.ex
      obtain ⟨a1, c1, rfl⟩ := own_shape o1.own
      obtain ⟨a2, c2, rfl⟩ := own_shape o2.own
      exact ⟨a1, _, c1, a2, _, c2, _, he, o1.touch⟩
end Go.Proofs.YtjpmjcadnnglnaaDoor
