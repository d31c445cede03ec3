/- Texts of this proof, one behind the other: what each says stands ahead of it. -/
import Derived.Test.YtabhlhgfacpohaaDoorM6
import Derived.Test.YtabhlhgfacpohaaDoorM7
import Derived.Shelf.Strings.Runes
import Derived.Shelf.Utf8.AppendRunePlain
import Derived.Ground.NamesProg
import Derived.Test.YtabhlhgfacpohaaDoorChecked
/- Parse of a text that may be a number; condition: the two tables lie there. -/
namespace Go.Proofs.YtabhlhgfacpohaaDoor
open Go.RowKit

theorem cells4 {w : World} {p : Nat} {a b c d : Value} {t : TypeId} (h : w.heap[p]? = some (.cells #[a, b, c, d] t (0, 0))) :
    (w.cell? ⟨p, 0, none⟩ = some a ∧ w.cell? ⟨p, 1, none⟩ = some b ∧ w.cell? ⟨p, 2, none⟩ = some c ∧ w.cell? ⟨p, 3, none⟩ = some d) ∧ (w.frozen? ⟨p, 0, none⟩ = false ∧ w.frozen? ⟨p, 1, none⟩ = false ∧ w.frozen? ⟨p, 2, none⟩ = false ∧ w.frozen? ⟨p, 3, none⟩ = false) := by
  simp [World.cell?, World.frozen?, h]
theorem cells2 {w : World} {p : Nat} {a b : Value} {t : TypeId} (h : w.heap[p]? = some (.cells #[a, b] t (0, 0))) :
    (w.cell? ⟨p, 0, none⟩ = some a ∧ w.cell? ⟨p, 1, none⟩ = some b) ∧ (w.frozen? ⟨p, 0, none⟩ = false ∧ w.frozen? ⟨p, 1, none⟩ = false) := by
  simp [World.cell?, World.frozen?, h]
/-- Both results laid. -/
theorem both_set {w : World} {p q : Nat} {a0 a1 a2 a3 b0 b1 : Value} (P : w.heap[p]? = some (.cells #[a0, a1, a2, a3] 26 (0, 0))) (Q : w.heap[q]? = some (.cells #[b0, b1] 29 (0, 0))) (h : p ≠ q) (x0 x1 x2 x3 y0 y1 : Value) :
    ((((((w.setCell ⟨p, 0, none⟩ x0).setCell ⟨p, 1, none⟩ x1).setCell ⟨p, 2, none⟩ x2).setCell ⟨p, 3, none⟩ x3).setCell ⟨q, 0, none⟩ y0).setCell ⟨q, 1, none⟩ y1).heap[p]? = some (.cells #[x0, x1, x2, x3] 26 (0, 0)) ∧
    ((((((w.setCell ⟨p, 0, none⟩ x0).setCell ⟨p, 1, none⟩ x1).setCell ⟨p, 2, none⟩ x2).setCell ⟨p, 3, none⟩ x3).setCell ⟨q, 0, none⟩ y0).setCell ⟨q, 1, none⟩ y1).heap[q]? = some (.cells #[y0, y1] 29 (0, 0)) := by
  constructor
  · rw [Below.heap_setCell _ _ _ _ h, Below.heap_setCell _ _ _ _ h]
    exact jfour_set P _ _ _ _
  · refine jtwo_set (a := b0) (b := b1) ?_ _ _
    have h' : q ≠ p := fun e => h e.symm
    rw [Below.heap_setCell _ _ _ _ h', Below.heap_setCell _ _ _ _ h', Below.heap_setCell _ _ _ _ h', Below.heap_setCell _ _ _ _ h']
    exact Q
theorem both_touch {S : Nat → Prop} {w w' : World} {p q : Nat} (T : Touch S w w') (hp : w.heap.size ≤ p) (hq : w.heap.size ≤ q) (x0 x1 x2 x3 y0 y1 : Value) :
    Touch S w ((((((w'.setCell ⟨p, 0, none⟩ x0).setCell ⟨p, 1, none⟩ x1).setCell ⟨p, 2, none⟩ x2).setCell ⟨p, 3, none⟩ x3).setCell ⟨q, 0, none⟩ y0).setCell ⟨q, 1, none⟩ y1) :=
  ((jfour_touch T hp x0 x1 x2 x3).setCell (p := ⟨q, 0, none⟩) (fun h => absurd h (Nat.not_lt.2 hq)) y0).setCell (p := ⟨q, 1, none⟩) (fun h => absurd h (Nat.not_lt.2 hq)) y1
set_option maxRecDepth 100000 in
set_option maxHeartbeats 4000000 in
theorem parse_long (s : ByteArray) (w : World) (ht : Tabs w) (hs : 1048576 < s.size) :
    Calls Tryd.prog 9 #[.string s] w fun e w' => e = .returned (.tuple #[zV, fV 2 0]) ∧ Touch (fun _ => False) w w' := by
  have hsI : (1048576 : Int) < (s.size : Int) := by omega
  have B := hid (begin2 (w := w) (b := 0) (by have := ht.two; omega))
  have HT := hid (ht.new B.out.2.2.1)
  clear ht
  go_enter Tryd.func9, Tryd.ntmps9
  go_upto_region 1 with fail
  generalize (w.alloc (.cells #[.int .i64 0, .string ⟨#[]⟩, .slice none 0 0, .slice none 0 0] 26)).alloc (.cells #[.int .i64 0, .int .i64 0] 29) = w1 at *
  obtain ⟨BA, BB, T1, L⟩ := B.out
  clear B
  replace BA := hid BA
  replace BB := hid BB
  replace T1 := hid T1
  obtain ⟨p, hp⟩ : ∃ p, p = w.heap.size := ⟨_, rfl⟩
  obtain ⟨q, hq⟩ : ∃ q, q = w.heap.size + 1 := ⟨_, rfl⟩
  have HL := hid (show w.heap.size ≤ p ∧ w.heap.size ≤ q ∧ p < q from by rw [hp, hq]; exact ⟨Nat.le_refl _, by omega, by omega⟩)
  clear L
  rw [← hq] at BB ⊢
  rw [← hp] at BA ⊢
  clear hp hq
  obtain ⟨⟨a0, a1, a2, a3⟩, ⟨e0, e1, e2, e3⟩⟩ := cells4 BA.out
  obtain ⟨⟨g0, g1⟩, ⟨f0, f1⟩⟩ := cells2 BB.out
  have n5 : ¬ p = q := by have := HL.out; omega
  have n6 : ¬ q = p := by have := HL.out; omega
  go_wp2
  have R := both_set BA.out BB.out n5 (.int .i64 0) (.string ⟨#[]⟩) (.slice none 0 0) (.slice none 0 0) (.int .i64 2) (.int .i64 0)
  have T := both_touch T1.out HL.out.1 HL.out.2.1 (.int .i64 0) (.string ⟨#[]⟩) (.slice none 0 0) (.slice none 0 0) (.int .i64 2) (.int .i64 0)
  exact bodyPost_ret (results_cc rfl _ _ p q 26 29 _ _ (0, 0) (0, 0) _ _ rfl R.1 Tryd.underlying26 rfl (by kernel_rfl) rfl R.2 Tryd.underlying29 rfl (by kernel_rfl)) rfl ⟨rfl, T⟩
set_option maxRecDepth 100000 in
set_option maxHeartbeats 4000000 in
theorem parse_of (s : ByteArray) (vk : Nat) (vt : ByteArray) (z2 z3 : Option Addr) (n2 n3 c2 c3 fc fk : Nat) (w : World) (ht : Tabs w) (hs : s.size ≤ 1048576)
    (KD : ∀ w, Tabs w → Calls Tryd.prog 13 #[.string (xs s), .int .i64 1, .bool true] w fun e w' => ∃ a1 n1 c1 a2 n2 c2, e = .returned (.tuple #[.agg #[.int .i64 1, .slice a1 n1 c1, .slice a2 n2 c2, .int .i64 0], .agg #[.int .i64 0, .int .i64 0]]) ∧ Touch (fun _ => False) w w')
    (KW : ∀ b w', Ps w' b s 0 0 → Calls Tryd.prog 19 #[.pointer (some ⟨b, 0, none⟩)] w' fun e w'' => e = .returned (.tuple #[.agg #[.int .i64 (vk : Nat), .string vt, .slice z2 n2 c2, .slice z3 n3 c3], .agg #[.int .i64 (fc : Nat), .int .i64 (fk : Nat)]]) ∧ Touch (fun k => k = b) w' w'') :
    Calls Tryd.prog 9 #[.string s] w fun e w' => e = .returned (.tuple #[.agg #[.int .i64 (vk : Nat), .string vt, .slice z2 n2 c2, .slice z3 n3 c3], .agg #[.int .i64 (fc : Nat), .int .i64 (fk : Nat)]]) ∧ Touch (fun _ => False) w w' := by
  have hsI : ¬ (1048576 : Int) < (s.size : Int) := by omega
  have K1 := hid KD
  have K2 := hid KW
  clear KD KW
  unfold xs at K1
  have B := hid (begin2 (w := w) (b := 0) (by have := ht.two; omega))
  have HT := hid (ht.new B.out.2.2.1)
  clear ht
  go_enter Tryd.func9, Tryd.ntmps9
  go_upto_region 1 with fail
  generalize (w.alloc (.cells #[.int .i64 0, .string ⟨#[]⟩, .slice none 0 0, .slice none 0 0] 26)).alloc (.cells #[.int .i64 0, .int .i64 0] 29) = w1 at *
  obtain ⟨BA, BB, T1, L⟩ := B.out
  clear B
  replace BA := hid BA
  replace BB := hid BB
  replace T1 := hid T1
  obtain ⟨p, hp⟩ : ∃ p, p = w.heap.size := ⟨_, rfl⟩
  obtain ⟨q, hq⟩ : ∃ q, q = w.heap.size + 1 := ⟨_, rfl⟩
  have HL := hid (show w.heap.size ≤ p ∧ w.heap.size ≤ q ∧ p < q from by rw [hp, hq]; exact ⟨Nat.le_refl _, by omega, by omega⟩)
  clear L
  rw [← hq] at BB ⊢
  rw [← hp] at BA ⊢
  clear hp hq
  go_wp2_with fail
  refine (K1.out w1 HT.out).mono ?_
  rintro e w2 ⟨b1, m1, d1, b2, m2, d2, rfl, tt⟩
  have P2 := hid ((tt.block p (lt_of_block BA.out) id).trans BA.out)
  have Q2 := hid ((tt.block q (lt_of_block BB.out) id).trans BB.out)
  have T2 := hid (T1.out.trans tt (fun _ _ e => e))
  clear tt K1 BA BB T1 HT
  go_upto_region 4 with fail
  have TA := (Touch.refl (fun _ => False) w2).alloc (.cells #[.int .i64 1, .slice b1 m1 d1, .slice b2 m2 d2, .int .i64 0] 37) |>.alloc (.cells #[.int .i64 0, .int .i64 0] 29)
  have BR := hid (jtwo_new (w := w2.alloc (.cells #[.int .i64 1, .slice b1 m1 d1, .slice b2 m2 d2, .int .i64 0] 37)) (.int .i64 0) (.int .i64 0) 29)
  rw [size_alloc1] at BR
  have P3 := hid ((TA.block p (lt_of_block P2.out) id).trans P2.out)
  have Q3 := hid ((TA.block q (lt_of_block Q2.out) id).trans Q2.out)
  have T3 := hid (T2.out.trans TA (fun _ _ e => e))
  clear TA P2 Q2 T2
  generalize (w2.alloc (.cells #[.int .i64 1, .slice b1 m1 d1, .slice b2 m2 d2, .int .i64 0] 37)).alloc (.cells #[.int .i64 0, .int .i64 0] 29) = w3 at *
  generalize w2.heap.size + 1 = r at *
  obtain ⟨⟨r0, r1⟩, _⟩ := cells2 BR.out
  clear BR
  go_upto_region 7 with fail
  have TA := (Touch.refl (fun _ => False) w3).alloc (.cells #[.string s, .int .i64 0, .int .i64 0] 51)
  have H4 := hid (show Ps (w3.alloc (.cells #[.string s, .int .i64 0, .int .i64 0] 51)) w3.heap.size s 0 0 from by
    show (w3.heap.push _)[_]? = _
    simp)
  have P4 := hid ((TA.block p (lt_of_block P3.out) id).trans P3.out)
  have Q4 := hid ((TA.block q (lt_of_block Q3.out) id).trans Q3.out)
  have T4 := hid (T3.out.trans TA (fun _ _ e => e))
  have HB := hid (show p < w3.heap.size ∧ q < w3.heap.size ∧ w.heap.size ≤ w3.heap.size from ⟨lt_of_block P3.out, lt_of_block Q3.out, T3.out.size⟩)
  clear TA P3 Q3 T3 r0 r1
  generalize w3.alloc (.cells #[.string s, .int .i64 0, .int .i64 0] 51) = w4 at *
  generalize w3.heap.size = b at *
  go_wp2_with fail
  refine (K2.out b w4 H4.out).mono ?_
  rintro e w5 ⟨rfl, tt⟩
  have P5 := hid ((tt.block p (lt_of_block P4.out) (fun e => by have := HB.out; omega)).trans P4.out)
  have Q5 := hid ((tt.block q (lt_of_block Q4.out) (fun e => by have := HB.out; omega)).trans Q4.out)
  have T5 := hid (Touch.trans (S := fun _ => False) T4.out tt (fun i hi e => by have := HB.out; omega))
  clear tt K2 P4 Q4 T4 H4
  obtain ⟨⟨a0, a1, a2, a3⟩, ⟨e0, e1, e2, e3⟩⟩ := cells4 P5.out
  obtain ⟨⟨g0, g1⟩, ⟨f0, f1⟩⟩ := cells2 Q5.out
  have n5 : ¬ p = q := by have := HL.out; omega
  have n6 : ¬ q = p := by have := HL.out; omega
  go_wp2
  have R := both_set P5.out Q5.out n5 (.int .i64 (vk : Nat)) (.string vt) (.slice z2 n2 c2) (.slice z3 n3 c3) (.int .i64 (fc : Nat)) (.int .i64 (fk : Nat))
  have T := both_touch T5.out HL.out.1 HL.out.2.1 (.int .i64 (vk : Nat)) (.string vt) (.slice z2 n2 c2) (.slice z3 n3 c3) (.int .i64 (fc : Nat)) (.int .i64 (fk : Nat))
  exact bodyPost_ret (results_cc rfl _ _ p q 26 29 _ _ (0, 0) (0, 0) _ _ rfl R.1 Tryd.underlying26 rfl (by kernel_rfl) rfl R.2 Tryd.underlying29 rfl (by kernel_rfl)) rfl ⟨rfl, T⟩

def okC (x : Nat) : Prop := (48 ≤ x ∧ x ≤ 57) ∨ x = 45 ∨ x = 43 ∨ x = 46 ∨ x = 101 ∨ x = 69
def numb (s : ByteArray) : Prop := ∀ i, i < s.size → okC (byN s i)
theorem numb_ascii {s : ByteArray} (h : numb s) : ascii s := fun i hi => by
  have := h i hi
  unfold okC at this
  omega
theorem lk_by (s : ByteArray) (k : Nat) : lk s k = if k < s.size then (byN s k : Int) else -1 := by
  unfold lk
  by_cases h : k < s.size
  · rw [at_opt s k h, if_pos h, ← by_get s k h]
  · rw [if_neg h, List.getElem?_eq_none (by rw [size_list]; omega)]
theorem numb_lk {s : ByteArray} (h : numb s) (k : Nat) : noBlank (lk s k) ∧ noSign (lk s k) := by
  rw [lk_by]
  unfold noBlank noSign
  by_cases hk : k < s.size
  · rw [if_pos hk]
    have := h k hk
    unfold okC at this
    omega
  · rw [if_neg hk]
    omega
/-- What Parse answers of such a text. -/
def parV (s : ByteArray) : Value := if 1048576 < s.size then .tuple #[zV, fV 2 0] else match numE s 0 with
  | .error k => .tuple #[zV, fV 20 k]
  | .ok u => if u = s.size then .tuple #[numV s 0 u, fV 0 0] else .tuple #[zV, fV 20 u]
theorem parse_num (s : ByteArray) (w : World) (ht : Tabs w) (hn : numb s) :
    Calls Tryd.prog 9 #[.string s] w fun e w' => e = .returned (parV s) ∧ Touch (fun _ => False) w w' := by
  by_cases hl : 1048576 < s.size
  · rw [show parV s = .tuple #[zV, fV 2 0] from by unfold parV; rw [if_pos hl]]
    exact parse_long s w ht hl
  · have hs : s.size ≤ 1048576 := by omega
    have KD := fun w h => decode_ascii s w h hs (numb_ascii hn)
    have KV := fun b w' (hp : Ps w' b s 0 0) => value_num b s 0 0 w' hp hs (Nat.zero_le _) (numb_lk hn)
    cases hX : numE s 0 with
    | error k =>
      rw [show parV s = .tuple #[zV, fV 20 k] from by unfold parV; rw [if_neg hl, hX]]
      refine parse_of s 0 ⟨#[]⟩ none none 0 0 0 0 20 k w ht hs KD ?_
      intro b w' hp
      refine whole_bad b s 20 k w' hp ?_
      intro w1 hp1
      have := KV b w1 hp1
      rw [hX] at this
      exact this.mono (fun e w2 h => ⟨h.1, h.2.2⟩)
    | ok u =>
      have hu := num_le (Nat.zero_le _) hX
      have KO := fun b w' (hp : Ps w' b s 0 0) => whole_ok b s u 0 3 (s.extract 0 u) none none 0 0 0 0 w' hp hs hu (fun w1 hp1 => by
        have := KV b w1 hp1
        rw [hX] at this
        exact this)
      by_cases he : u = s.size
      · rw [show parV s = .tuple #[numV s 0 u, fV 0 0] from by unfold parV; rw [if_neg hl, hX]; simp only; rw [if_pos he]]
        refine parse_of s 3 (s.extract 0 u) none none 0 0 0 0 0 0 w ht hs KD ?_
        intro b w' hp
        have := KO b w' hp
        rw [if_pos he] at this
        exact this
      · rw [show parV s = .tuple #[zV, fV 20 u] from by unfold parV; rw [if_neg hl, hX]; simp only; rw [if_neg he]]
        refine parse_of s 0 ⟨#[]⟩ none none 0 0 0 0 20 u w ht hs KD ?_
        intro b w' hp
        have := KO b w' hp
        rw [if_neg he] at this
        exact this
end Go.Proofs.YtabhlhgfacpohaaDoor

/-
  DERIVED: THE SHELF's CONTRACTS AT THIS DUMP, IN PLAIN WORDS (tools/lay-plain.mjs out of 'YtabhlhgfacpohaaDoorShq.lean', which tools/lay-shelf.mjs wrote): THE SAME DECLARATIONS UNDER THE SAME NAMES: 'import', 'namespace', 'open', 'def', 'theorem' AND NOTHING ELSE: no command of the shelf's: FOR A HAND-IN. Each laying: the table of numbers ('.._ren') and one theorem, a field a fact of the dump's own or the kernel's comparison; each contract: ONE APPLICATION.
-/
namespace Go.Proofs
open Go.Shelf
def Tryd.lays152_ren : Go.Shelf.Ren := ⟨fun | 152 => 65 | 137 => 82 | 119 => 83 | 224 => 84 | 225 => 85 | 217 => 93 | 266 => 95 | n => n, fun | 9 => 9 | 21 => 21 | 3 => 3 | 4 => 4 | 5 => 5 | 0 => 0 | 46 => 93 | n => n, fun | n => n⟩
theorem Tryd.lays152 : Go.Proofs.Lays.n152 Tryd.prog Tryd.lays152_ren := {
  mixed := by kernel_rfl
  f119 := Tryd.func83.trans (congrArg some (by kernel_rfl))
  f137 := Tryd.func82.trans (congrArg some (by kernel_rfl))
  f152 := Tryd.func65.trans (congrArg some (by kernel_rfl))
  f217 := Tryd.func93.trans (congrArg some (by kernel_rfl))
  f224 := Tryd.func84.trans (congrArg some (by kernel_rfl))
  f225 := Tryd.func85.trans (congrArg some (by kernel_rfl))
  f266 := Tryd.func95.trans (congrArg some (by kernel_rfl))
  t0 := Tryd.underlying0
  a0 := Tryd.isAgg0
  z0 := Tryd.sizeOf0
  v0 := Tryd.zeroValue0
  t3 := Tryd.underlying3
  a3 := Tryd.isAgg3
  z3 := Tryd.sizeOf3
  v3 := Tryd.zeroValue3
  t4 := Tryd.underlying4
  a4 := Tryd.isAgg4
  z4 := Tryd.sizeOf4
  v4 := Tryd.zeroValue4
  t5 := Tryd.underlying5
  a5 := Tryd.isAgg5
  z5 := Tryd.sizeOf5
  v5 := Tryd.zeroValue5
  t9 := Tryd.underlying9
  a9 := Tryd.isAgg9
  z9 := Tryd.sizeOf9
  v9 := Tryd.zeroValue9
  t21 := Tryd.underlying21
  a21 := Tryd.isAgg21
  z21 := Tryd.sizeOf21
  v21 := Tryd.zeroValue21
  t46 := Tryd.underlying93
  a46 := Tryd.isAgg93
  z46 := Tryd.sizeOf93
  v46 := Tryd.zeroValue93 }
def Tryd.lays242_ren : Go.Shelf.Ren := ⟨fun | 242 => 66 | 278 => 86 | n => n, fun | 37 => 53 | 21 => 21 | 51 => 113 | 4 => 4 | 5 => 5 | 46 => 93 | n => n, fun | n => n⟩
theorem Tryd.lays242 : Go.Proofs.Lays.n242 Tryd.prog Tryd.lays242_ren := {
  mixed := by kernel_rfl
  f242 := Tryd.func66.trans (congrArg some (by kernel_rfl))
  f278 := Tryd.func86.trans (congrArg some (by kernel_rfl))
  t4 := Tryd.underlying4
  a4 := Tryd.isAgg4
  z4 := Tryd.sizeOf4
  v4 := Tryd.zeroValue4
  t5 := Tryd.underlying5
  a5 := Tryd.isAgg5
  z5 := Tryd.sizeOf5
  v5 := Tryd.zeroValue5
  t21 := Tryd.underlying21
  a21 := Tryd.isAgg21
  z21 := Tryd.sizeOf21
  v21 := Tryd.zeroValue21
  t37 := Tryd.underlying53
  a37 := Tryd.isAgg53
  z37 := Tryd.sizeOf53
  v37 := Tryd.zeroValue53
  t46 := Tryd.underlying93
  a46 := Tryd.isAgg93
  z46 := Tryd.sizeOf93
  v46 := Tryd.zeroValue93
  t51 := Tryd.underlying113
  a51 := Tryd.isAgg113
  z51 := Tryd.sizeOf113
  v51 := Tryd.zeroValue113 }
end Go.Proofs
