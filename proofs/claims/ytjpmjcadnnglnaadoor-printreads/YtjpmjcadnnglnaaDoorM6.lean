/- Texts of this proof, one behind the other: what each says stands ahead of it. -/
import Derived.Test.YtjpmjcadnnglnaaDoorM5
import Derived.Shelf.Strings.Runes
import Derived.Shelf.Utf8.AppendRunePlain
import Derived.Ground.NamesProg
import Derived.Test.YtjpmjcadnnglnaaDoorChecked
/- Decode of a text of bytes below 128 that begins with x: nothing is wrong; conditions: the two tables lie there, the text is not too long. -/
namespace Go.Proofs.YtjpmjcadnnglnaaDoor
open Go.RowKit

def ascii (s : ByteArray) : Prop := ∀ i, i < s.size → byN s i < 128
theorem toList_data (s : ByteArray) : s.toList = s.data.toList := by
  have go : ∀ (n i : Nat) (r : List UInt8), s.size - i = n → ByteArray.toList.loop s i r = r.reverse ++ s.data.toList.drop i := by
    intro n
    induction n with
    | zero =>
      intro i r h
      unfold ByteArray.toList.loop
      rw [if_neg (by omega), List.drop_eq_nil_of_le (by rw [Array.length_toList]; show s.size ≤ i; omega), List.append_nil]
    | succ n ih =>
      intro i r h
      have hi : i < s.size := by omega
      have hi' : i < s.data.toList.length := by rw [Array.length_toList]; exact hi
      unfold ByteArray.toList.loop
      rw [if_pos hi, ih (i + 1) _ (by omega), List.drop_eq_getElem_cons hi', List.reverse_cons, List.append_assoc]
      congr 1
      show s.get! i :: _ = _
      congr 1
      show s.data[i]! = _
      rw [getElem!_pos s.data i hi]
      rfl
  unfold ByteArray.toList
  rw [go _ 0 [] rfl]
  rfl
theorem lead_ascii (b : Nat) (h : b < 128) : leadOf b = some ⟨0, 127, 0, 0, 0⟩ := by
  unfold leadOf leadsL
  rw [List.find?_cons_of_pos]
  unfold hasLead
  rw [Bool.and_eq_true, decide_eq_true_eq, decide_eq_true_eq]
  constructor
  · exact Nat.zero_le _
  · show b ≤ 127
    omega
theorem byN_append (a b : ByteArray) (i : Nat) : byN (a ++ b) i = if i < a.size then byN a i else byN b (i - a.size) := by
  by_cases h : i < a.size
  · rw [if_pos h]
    have h1 : i < (a ++ b).size := by rw [ByteArray.size_append]; omega
    unfold byN
    rw [dif_pos h1, dif_pos h, ByteArray.getElem_append_left h]
  · rw [if_neg h]
    by_cases h2 : i - a.size < b.size
    · have h1 : i < (a ++ b).size := by rw [ByteArray.size_append]; omega
      unfold byN
      rw [dif_pos h1, dif_pos h2, ByteArray.getElem_append_right (by omega)]
    · have h1 : ¬ i < (a ++ b).size := by rw [ByteArray.size_append]; omega
      unfold byN
      rw [dif_neg h1, dif_neg h2]
theorem byN_extract (s : ByteArray) (i : Nat) (h : i < s.size) : byN (s.extract i s.size) 0 = byN s i := by
  have h0 : 0 < (s.extract i s.size).size := by rw [ByteArray.size_extract]; omega
  rw [← by_get _ _ h0, ← by_get _ _ h, ByteArray.getElem_extract]
  simp
theorem tk_ascii (s : ByteArray) (i : Nat) (h : i < s.size) (hb : byN s i < 128) : tkAt s 1 i = ((byN s i : Int), 1) := by
  unfold tkAt
  rw [if_neg (by decide), if_neg (by decide), if_neg (by decide)]
  unfold tk8
  rw [byN_extract s i h, lead_ascii _ hb]
  show tkGo _ 0 0 1 _ _ _ = _
  unfold tkGo
  rw [Nat.mod_eq_of_lt (by omega)]
theorem dc_ascii (s : ByteArray) (st : Bool) (ha : ascii s) : ∀ (k i : Nat) (rs ps : List Int), (dcGo s 1 st k i rs ps 0).1 = none
  | 0, i, rs, ps => rfl
  | k + 1, i, rs, ps => by
    by_cases h : i < s.size
    · have e := tk_ascii s i h (ha i h)
      rw [dc_step h, e, if_neg (by simp only; omega)]
      exact dc_ascii s st ha k _ _ _
    · rw [dc_end (by omega)]
theorem dc_bad0 (s : ByteArray) (st : Bool) (ha : ascii s) : ∀ (k i : Nat) (rs ps : List Int), (dcGo s 1 st k i rs ps 0).2.2.2 = 0
  | 0, i, rs, ps => rfl
  | k + 1, i, rs, ps => by
    by_cases h : i < s.size
    · have e := tk_ascii s i h (ha i h)
      rw [dc_step h, e, if_neg (by simp only; omega)]
      exact dc_bad0 s st ha k _ _ _
    · rw [dc_end (by omega)]
def xs (s : ByteArray) : ByteArray := ⟨#[120]⟩ ++ s
theorem xs_size (s : ByteArray) : (xs s).size = s.size + 1 := by
  unfold xs
  rw [ByteArray.size_append, show (⟨#[120]⟩ : ByteArray).size = 1 from rfl, Nat.add_comm]
theorem xs_zero (s : ByteArray) : byN (xs s) 0 = 120 := by
  unfold xs
  rw [byN_append, if_pos (by decide)]
  rfl
theorem xs_at (s : ByteArray) (i : Nat) : byN (xs s) (i + 1) = byN s i := by
  unfold xs
  rw [byN_append, if_neg (by show ¬ i + 1 < 1; omega)]
  rfl
theorem xs_ascii {s : ByteArray} (h : ascii s) : ascii (xs s) := by
  intro i hi
  cases i with
  | zero => rw [xs_zero]; decide
  | succ i => rw [xs_at]; exact h i (by rw [xs_size] at hi; omega)
theorem xs_beg (s : ByteArray) : begB (xs s) (mk 1) = false := by
  unfold begB
  rw [Bool.and_eq_false_iff]
  by_cases h : (mk 1).size ≤ (xs s).size
  · right
    rw [beq_eq_false_iff_ne]
    intro e
    have h3 : (mk 1).size = 3 := rfl
    rw [toList_data, toList_data] at e
    have h4 : ((xs s).extract 0 (mk 1).size) = mk 1 := by
      have : ((xs s).extract 0 (mk 1).size).data = (mk 1).data := Array.toList_inj.1 e
      exact congrArg ByteArray.mk this
    have h6 : byN ((xs s).extract 0 (mk 1).size) 0 = 239 := by rw [h4]; rfl
    have h7 : 0 < ((xs s).extract 0 (mk 1).size).size := by rw [ByteArray.size_extract]; omega
    have h8 : 0 < (xs s).size := by rw [xs_size]; omega
    have h9 := xs_zero s
    rw [← by_get _ _ h8] at h9
    rw [← by_get _ _ h7, ByteArray.getElem_extract] at h6
    simp only [Nat.add_zero] at h6
    omega
  · left
    simpa using h
theorem xs_bg (s : ByteArray) : bg (xs s) 1 = (1, 0) := by
  unfold bg
  rw [if_neg (by decide), if_neg (by rw [xs_beg]; decide)]
theorem decode_ascii (s : ByteArray) (w : World) (ht : Tabs w) (hs : s.size ≤ 1048576) (ha : ascii s) :
    Calls Tryd.prog 13 #[.string (xs s), .int .i64 1, .bool true] w fun e w' => ∃ a1 n1 c1 a2 n2 c2, e = .returned (.tuple #[.agg #[.int .i64 1, .slice a1 n1 c1, .slice a2 n2 c2, .int .i64 0], .agg #[.int .i64 0, .int .i64 0]]) ∧ Touch (fun _ => False) w w' := by
  have k := decode_any (xs s) 1 true w ht (by rw [xs_size]; omega) (by decide)
  rw [xs_bg] at k
  refine k.mono ?_
  intro e w' h
  rcases h with ⟨i, h1, _⟩ | ⟨_, h2⟩
  · rw [show (((1 : Nat), (0 : Nat)).1) = 1 from rfl, dc_ascii _ _ (xs_ascii ha)] at h1
    cases h1
  · obtain ⟨v1, v2, he, o1, o2⟩ := h2.ex
    rw [show (((1 : Nat), (0 : Nat)).1) = 1 from rfl] at he
    obtain ⟨a1, c1, rfl⟩ := own_shape o1.own
    obtain ⟨a2, c2, rfl⟩ := own_shape o2.own
    rw [dc_bad0 _ _ (xs_ascii ha)] at he
    exact ⟨a1, _, c1, a2, _, c2, he, o1.touch⟩
end Go.Proofs.YtjpmjcadnnglnaaDoor

/- Parse of a text that may be a number; condition: the two tables lie there. -/
namespace Go.Proofs.YtjpmjcadnnglnaaDoor
open Go.RowKit

theorem cells4 {w : World} {p : Nat} {a b c d : Value} {t : TypeId} (h : w.heap[p]? = some (.cells #[a, b, c, d] t (0, 0))) :
    (w.cell? ⟨p, 0, none⟩ = some a ∧ w.cell? ⟨p, 1, none⟩ = some b ∧ w.cell? ⟨p, 2, none⟩ = some c ∧ w.cell? ⟨p, 3, none⟩ = some d) ∧ (w.frozen? ⟨p, 0, none⟩ = false ∧ w.frozen? ⟨p, 1, none⟩ = false ∧ w.frozen? ⟨p, 2, none⟩ = false ∧ w.frozen? ⟨p, 3, none⟩ = false) := by
  simp [World.cell?, World.frozen?, h]
theorem cells2 {w : World} {p : Nat} {a b : Value} {t : TypeId} (h : w.heap[p]? = some (.cells #[a, b] t (0, 0))) :
    (w.cell? ⟨p, 0, none⟩ = some a ∧ w.cell? ⟨p, 1, none⟩ = some b) ∧ (w.frozen? ⟨p, 0, none⟩ = false ∧ w.frozen? ⟨p, 1, none⟩ = false) := by
  simp [World.cell?, World.frozen?, h]
/-- Both results laid. -/
theorem both_set {w : World} {p q : Nat} {a0 a1 a2 a3 b0 b1 : Value} (P : w.heap[p]? = some (.cells #[a0, a1, a2, a3] 36 (0, 0))) (Q : w.heap[q]? = some (.cells #[b0, b1] 39 (0, 0))) (h : p ≠ q) (x0 x1 x2 x3 y0 y1 : Value) :
    ((((((w.setCell ⟨p, 0, none⟩ x0).setCell ⟨p, 1, none⟩ x1).setCell ⟨p, 2, none⟩ x2).setCell ⟨p, 3, none⟩ x3).setCell ⟨q, 0, none⟩ y0).setCell ⟨q, 1, none⟩ y1).heap[p]? = some (.cells #[x0, x1, x2, x3] 36 (0, 0)) ∧
    ((((((w.setCell ⟨p, 0, none⟩ x0).setCell ⟨p, 1, none⟩ x1).setCell ⟨p, 2, none⟩ x2).setCell ⟨p, 3, none⟩ x3).setCell ⟨q, 0, none⟩ y0).setCell ⟨q, 1, none⟩ y1).heap[q]? = some (.cells #[y0, y1] 39 (0, 0)) := by
  constructor
  · rw [Below.heap_setCell _ _ _ _ h, Below.heap_setCell _ _ _ _ h]
    exact jfour_set P _ _ _ _
  · refine jtwo_set (a := b0) (b := b1) ?_ _ _
    have h' : q ≠ p := fun e => h e.symm
    rw [Below.heap_setCell _ _ _ _ h', Below.heap_setCell _ _ _ _ h', Below.heap_setCell _ _ _ _ h', Below.heap_setCell _ _ _ _ h']
    exact Q
theorem both_touch {S : Nat → Prop} {w w' : World} {p q : Nat} (T : Touch S w w') (hp : w.heap.size ≤ p) (hq : w.heap.size ≤ q) (x0 x1 x2 x3 y0 y1 : Value) :
    Touch S w ((((((w'.setCell ⟨p, 0, none⟩ x0).setCell ⟨p, 1, none⟩ x1).setCell ⟨p, 2, none⟩ x2).setCell ⟨p, 3, none⟩ x3).setCell ⟨q, 0, none⟩ y0).setCell ⟨q, 1, none⟩ y1) :=
  ((jfour_touch T hp x0 x1 x2 x3).setCell (p := ⟨q, 0, none⟩) (fun h => absurd h (Nat.not_lt.2 hq)) y0).setCell (p := ⟨q, 1, none⟩) (fun h => absurd h (Nat.not_lt.2 hq)) y1
set_option maxRecDepth 100000 in
set_option maxHeartbeats 4000000 in
theorem parse_long (s : ByteArray) (w : World) (ht : Tabs w) (hs : 1048576 < s.size) :
    Calls Tryd.prog 7 #[.string s] w fun e w' => e = .returned (.tuple #[zV, fV 2 0]) ∧ Touch (fun _ => False) w w' := by
  have hsI : (1048576 : Int) < (s.size : Int) := by omega
  have B := hid (begin2 (w := w) (b := 0) (by have := ht.two; omega))
  have HT := hid (ht.new B.out.2.2.1)
  clear ht
  go_enter Tryd.func7, Tryd.ntmps7
  go_upto_region 1 with fail
  generalize (w.alloc (.cells #[.int .i64 0, .string ⟨#[]⟩, .slice none 0 0, .slice none 0 0] 36)).alloc (.cells #[.int .i64 0, .int .i64 0] 39) = w1 at *
  obtain ⟨BA, BB, T1, L⟩ := B.out
  clear B
  replace BA := hid BA
  replace BB := hid BB
  replace T1 := hid T1
  obtain ⟨p, hp⟩ : ∃ p, p = w.heap.size := ⟨_, rfl⟩
  obtain ⟨q, hq⟩ : ∃ q, q = w.heap.size + 1 := ⟨_, rfl⟩
  have HL := hid (show w.heap.size ≤ p ∧ w.heap.size ≤ q ∧ p < q from by rw [hp, hq]; exact ⟨Nat.le_refl _, by omega, by omega⟩)
  clear L
  rw [← hq] at BB ⊢
  rw [← hp] at BA ⊢
  clear hp hq
  obtain ⟨⟨a0, a1, a2, a3⟩, ⟨e0, e1, e2, e3⟩⟩ := cells4 BA.out
  obtain ⟨⟨g0, g1⟩, ⟨f0, f1⟩⟩ := cells2 BB.out
  have n5 : ¬ p = q := by have := HL.out; omega
  have n6 : ¬ q = p := by have := HL.out; omega
  go_wp2
  have R := both_set BA.out BB.out n5 (.int .i64 0) (.string ⟨#[]⟩) (.slice none 0 0) (.slice none 0 0) (.int .i64 2) (.int .i64 0)
  have T := both_touch T1.out HL.out.1 HL.out.2.1 (.int .i64 0) (.string ⟨#[]⟩) (.slice none 0 0) (.slice none 0 0) (.int .i64 2) (.int .i64 0)
  exact bodyPost_ret (results_cc rfl _ _ p q 36 39 _ _ (0, 0) (0, 0) _ _ rfl R.1 Tryd.underlying36 rfl (by kernel_rfl) rfl R.2 Tryd.underlying39 rfl (by kernel_rfl)) rfl ⟨rfl, T⟩
set_option maxRecDepth 100000 in
set_option maxHeartbeats 4000000 in
theorem parse_of (s : ByteArray) (vk : Nat) (vt : ByteArray) (z2 z3 : Option Addr) (n2 n3 c2 c3 fc fk : Nat) (w : World) (ht : Tabs w) (hs : s.size ≤ 1048576)
    (KD : ∀ w, Tabs w → Calls Tryd.prog 13 #[.string (xs s), .int .i64 1, .bool true] w fun e w' => ∃ a1 n1 c1 a2 n2 c2, e = .returned (.tuple #[.agg #[.int .i64 1, .slice a1 n1 c1, .slice a2 n2 c2, .int .i64 0], .agg #[.int .i64 0, .int .i64 0]]) ∧ Touch (fun _ => False) w w')
    (KW : ∀ b w', Ps w' b s 0 0 → Calls Tryd.prog 14 #[.pointer (some ⟨b, 0, none⟩)] w' fun e w'' => e = .returned (.tuple #[.agg #[.int .i64 (vk : Nat), .string vt, .slice z2 n2 c2, .slice z3 n3 c3], .agg #[.int .i64 (fc : Nat), .int .i64 (fk : Nat)]]) ∧ Touch (fun k => k = b) w' w'') :
    Calls Tryd.prog 7 #[.string s] w fun e w' => e = .returned (.tuple #[.agg #[.int .i64 (vk : Nat), .string vt, .slice z2 n2 c2, .slice z3 n3 c3], .agg #[.int .i64 (fc : Nat), .int .i64 (fk : Nat)]]) ∧ Touch (fun _ => False) w w' := by
  have hsI : ¬ (1048576 : Int) < (s.size : Int) := by omega
  have K1 := hid KD
  have K2 := hid KW
  clear KD KW
  unfold xs at K1
  have B := hid (begin2 (w := w) (b := 0) (by have := ht.two; omega))
  have HT := hid (ht.new B.out.2.2.1)
  clear ht
  go_enter Tryd.func7, Tryd.ntmps7
  go_upto_region 1 with fail
  generalize (w.alloc (.cells #[.int .i64 0, .string ⟨#[]⟩, .slice none 0 0, .slice none 0 0] 36)).alloc (.cells #[.int .i64 0, .int .i64 0] 39) = w1 at *
  obtain ⟨BA, BB, T1, L⟩ := B.out
  clear B
  replace BA := hid BA
  replace BB := hid BB
  replace T1 := hid T1
  obtain ⟨p, hp⟩ : ∃ p, p = w.heap.size := ⟨_, rfl⟩
  obtain ⟨q, hq⟩ : ∃ q, q = w.heap.size + 1 := ⟨_, rfl⟩
  have HL := hid (show w.heap.size ≤ p ∧ w.heap.size ≤ q ∧ p < q from by rw [hp, hq]; exact ⟨Nat.le_refl _, by omega, by omega⟩)
  clear L
  rw [← hq] at BB ⊢
  rw [← hp] at BA ⊢
  clear hp hq
  go_wp2_with fail
  refine (K1.out w1 HT.out).mono ?_
  rintro e w2 ⟨b1, m1, d1, b2, m2, d2, rfl, tt⟩
  have P2 := hid ((tt.block p (lt_of_block BA.out) id).trans BA.out)
  have Q2 := hid ((tt.block q (lt_of_block BB.out) id).trans BB.out)
  have T2 := hid (T1.out.trans tt (fun _ _ e => e))
  clear tt K1 BA BB T1 HT
  go_upto_region 4 with fail
  have TA := (Touch.refl (fun _ => False) w2).alloc (.cells #[.int .i64 1, .slice b1 m1 d1, .slice b2 m2 d2, .int .i64 0] 56) |>.alloc (.cells #[.int .i64 0, .int .i64 0] 39)
  have BR := hid (jtwo_new (w := w2.alloc (.cells #[.int .i64 1, .slice b1 m1 d1, .slice b2 m2 d2, .int .i64 0] 56)) (.int .i64 0) (.int .i64 0) 39)
  rw [size_alloc1] at BR
  have P3 := hid ((TA.block p (lt_of_block P2.out) id).trans P2.out)
  have Q3 := hid ((TA.block q (lt_of_block Q2.out) id).trans Q2.out)
  have T3 := hid (T2.out.trans TA (fun _ _ e => e))
  clear TA P2 Q2 T2
  generalize (w2.alloc (.cells #[.int .i64 1, .slice b1 m1 d1, .slice b2 m2 d2, .int .i64 0] 56)).alloc (.cells #[.int .i64 0, .int .i64 0] 39) = w3 at *
  generalize w2.heap.size + 1 = r at *
  obtain ⟨⟨r0, r1⟩, _⟩ := cells2 BR.out
  clear BR
  go_upto_region 7 with fail
  have TA := (Touch.refl (fun _ => False) w3).alloc (.cells #[.string s, .int .i64 0, .int .i64 0] 60)
  have H4 := hid (show Ps (w3.alloc (.cells #[.string s, .int .i64 0, .int .i64 0] 60)) w3.heap.size s 0 0 from by
    show (w3.heap.push _)[_]? = _
    simp)
  have P4 := hid ((TA.block p (lt_of_block P3.out) id).trans P3.out)
  have Q4 := hid ((TA.block q (lt_of_block Q3.out) id).trans Q3.out)
  have T4 := hid (T3.out.trans TA (fun _ _ e => e))
  have HB := hid (show p < w3.heap.size ∧ q < w3.heap.size ∧ w.heap.size ≤ w3.heap.size from ⟨lt_of_block P3.out, lt_of_block Q3.out, T3.out.size⟩)
  clear TA P3 Q3 T3 r0 r1
  generalize w3.alloc (.cells #[.string s, .int .i64 0, .int .i64 0] 60) = w4 at *
  generalize w3.heap.size = b at *
  go_wp2_with fail
  refine (K2.out b w4 H4.out).mono ?_
  rintro e w5 ⟨rfl, tt⟩
  have P5 := hid ((tt.block p (lt_of_block P4.out) (fun e => by have := HB.out; omega)).trans P4.out)
  have Q5 := hid ((tt.block q (lt_of_block Q4.out) (fun e => by have := HB.out; omega)).trans Q4.out)
  have T5 := hid (Touch.trans (S := fun _ => False) T4.out tt (fun i hi e => by have := HB.out; omega))
  clear tt K2 P4 Q4 T4 H4
  obtain ⟨⟨a0, a1, a2, a3⟩, ⟨e0, e1, e2, e3⟩⟩ := cells4 P5.out
  obtain ⟨⟨g0, g1⟩, ⟨f0, f1⟩⟩ := cells2 Q5.out
  have n5 : ¬ p = q := by have := HL.out; omega
  have n6 : ¬ q = p := by have := HL.out; omega
  go_wp2
  have R := both_set P5.out Q5.out n5 (.int .i64 (vk : Nat)) (.string vt) (.slice z2 n2 c2) (.slice z3 n3 c3) (.int .i64 (fc : Nat)) (.int .i64 (fk : Nat))
  have T := both_touch T5.out HL.out.1 HL.out.2.1 (.int .i64 (vk : Nat)) (.string vt) (.slice z2 n2 c2) (.slice z3 n3 c3) (.int .i64 (fc : Nat)) (.int .i64 (fk : Nat))
  exact bodyPost_ret (results_cc rfl _ _ p q 36 39 _ _ (0, 0) (0, 0) _ _ rfl R.1 Tryd.underlying36 rfl (by kernel_rfl) rfl R.2 Tryd.underlying39 rfl (by kernel_rfl)) rfl ⟨rfl, T⟩

def okC (x : Nat) : Prop := (48 ≤ x ∧ x ≤ 57) ∨ x = 45 ∨ x = 43 ∨ x = 46 ∨ x = 101 ∨ x = 69
def numb (s : ByteArray) : Prop := ∀ i, i < s.size → okC (byN s i)
theorem numb_ascii {s : ByteArray} (h : numb s) : ascii s := fun i hi => by
  have := h i hi
  unfold okC at this
  omega
theorem lk_by (s : ByteArray) (k : Nat) : lk s k = if k < s.size then (byN s k : Int) else -1 := by
  unfold lk
  by_cases h : k < s.size
  · rw [at_opt s k h, if_pos h, ← by_get s k h]
  · rw [if_neg h, List.getElem?_eq_none (by rw [size_list]; omega)]
theorem numb_lk {s : ByteArray} (h : numb s) (k : Nat) : noBlank (lk s k) ∧ noSign (lk s k) := by
  rw [lk_by]
  unfold noBlank noSign
  by_cases hk : k < s.size
  · rw [if_pos hk]
    have := h k hk
    unfold okC at this
    omega
  · rw [if_neg hk]
    omega
/-- What Parse answers of such a text. -/
def parV (s : ByteArray) : Value := if 1048576 < s.size then .tuple #[zV, fV 2 0] else match numE s 0 with
  | .error k => .tuple #[zV, fV 20 k]
  | .ok u => if u = s.size then .tuple #[numV s 0 u, fV 0 0] else .tuple #[zV, fV 20 u]
theorem parse_num (s : ByteArray) (w : World) (ht : Tabs w) (hn : numb s) :
    Calls Tryd.prog 7 #[.string s] w fun e w' => e = .returned (parV s) ∧ Touch (fun _ => False) w w' := by
  by_cases hl : 1048576 < s.size
  · rw [show parV s = .tuple #[zV, fV 2 0] from by unfold parV; rw [if_pos hl]]
    exact parse_long s w ht hl
  · have hs : s.size ≤ 1048576 := by omega
    have KD := fun w h => decode_ascii s w h hs (numb_ascii hn)
    have KV := fun b w' (hp : Ps w' b s 0 0) => value_num b s 0 0 w' hp hs (Nat.zero_le _) (numb_lk hn)
    cases hX : numE s 0 with
    | error k =>
      rw [show parV s = .tuple #[zV, fV 20 k] from by unfold parV; rw [if_neg hl, hX]]
      refine parse_of s 0 ⟨#[]⟩ none none 0 0 0 0 20 k w ht hs KD ?_
      intro b w' hp
      refine whole_bad b s 20 k w' hp ?_
      intro w1 hp1
      have := KV b w1 hp1
      rw [hX] at this
      exact this.mono (fun e w2 h => ⟨h.1, h.2.2⟩)
    | ok u =>
      have hu := num_le (Nat.zero_le _) hX
      have KO := fun b w' (hp : Ps w' b s 0 0) => whole_ok b s u 0 3 (s.extract 0 u) none none 0 0 0 0 w' hp hs hu (fun w1 hp1 => by
        have := KV b w1 hp1
        rw [hX] at this
        exact this)
      by_cases he : u = s.size
      · rw [show parV s = .tuple #[numV s 0 u, fV 0 0] from by unfold parV; rw [if_neg hl, hX]; simp only; rw [if_pos he]]
        refine parse_of s 3 (s.extract 0 u) none none 0 0 0 0 0 0 w ht hs KD ?_
        intro b w' hp
        have := KO b w' hp
        rw [if_pos he] at this
        exact this
      · rw [show parV s = .tuple #[zV, fV 20 u] from by unfold parV; rw [if_neg hl, hX]; simp only; rw [if_neg he]]
        refine parse_of s 0 ⟨#[]⟩ none none 0 0 0 0 20 u w ht hs KD ?_
        intro b w' hp
        have := KO b w' hp
        rw [if_neg he] at this
        exact this
end Go.Proofs.YtjpmjcadnnglnaaDoor

/-
  DERIVED: THE SHELF's CONTRACTS AT THIS DUMP, IN PLAIN WORDS (tools/lay-plain.mjs out of 'YtjpmjcadnnglnaaDoorShq.lean', which tools/lay-shelf.mjs wrote): THE SAME DECLARATIONS UNDER THE SAME NAMES: 'import', 'namespace', 'open', 'def', 'theorem' AND NOTHING ELSE: no command of the shelf's: FOR A HAND-IN. Each laying: the table of numbers ('.._ren') and one theorem, a field a fact of the dump's own or the kernel's comparison; each contract: ONE APPLICATION.
-/
namespace Go.Proofs
open Go.Shelf
def Tryd.lays137_ren : Go.Shelf.Ren := ⟨fun | 137 => 68 | 217 => 71 | 266 => 74 | n => n, fun | 9 => 9 | 3 => 3 | 5 => 5 | n => n, fun | n => n⟩
theorem Tryd.lays137 : Go.Proofs.Lays.n137 Tryd.prog Tryd.lays137_ren := {
  mixed := by kernel_rfl
  f137 := Tryd.func68.trans (congrArg some (by kernel_rfl))
  f217 := Tryd.func71.trans (congrArg some (by kernel_rfl))
  f266 := Tryd.func74.trans (congrArg some (by kernel_rfl))
  t3 := Tryd.underlying3
  a3 := Tryd.isAgg3
  z3 := Tryd.sizeOf3
  v3 := Tryd.zeroValue3
  t5 := Tryd.underlying5
  a5 := Tryd.isAgg5
  z5 := Tryd.sizeOf5
  v5 := Tryd.zeroValue5
  t9 := Tryd.underlying9
  a9 := Tryd.isAgg9
  z9 := Tryd.sizeOf9
  v9 := Tryd.zeroValue9 }
def Tryd.lays242_ren : Go.Shelf.Ren := ⟨fun | 242 => 70 | 278 => 73 | n => n, fun | 37 => 97 | 21 => 21 | 51 => 114 | 4 => 4 | 5 => 5 | 46 => 100 | n => n, fun | n => n⟩
theorem Tryd.lays242 : Go.Proofs.Lays.n242 Tryd.prog Tryd.lays242_ren := {
  mixed := by kernel_rfl
  f242 := Tryd.func70.trans (congrArg some (by kernel_rfl))
  f278 := Tryd.func73.trans (congrArg some (by kernel_rfl))
  t4 := Tryd.underlying4
  a4 := Tryd.isAgg4
  z4 := Tryd.sizeOf4
  v4 := Tryd.zeroValue4
  t5 := Tryd.underlying5
  a5 := Tryd.isAgg5
  z5 := Tryd.sizeOf5
  v5 := Tryd.zeroValue5
  t21 := Tryd.underlying21
  a21 := Tryd.isAgg21
  z21 := Tryd.sizeOf21
  v21 := Tryd.zeroValue21
  t37 := Tryd.underlying97
  a37 := Tryd.isAgg97
  z37 := Tryd.sizeOf97
  v37 := Tryd.zeroValue97
  t46 := Tryd.underlying100
  a46 := Tryd.isAgg100
  z46 := Tryd.sizeOf100
  v46 := Tryd.zeroValue100
  t51 := Tryd.underlying114
  a51 := Tryd.isAgg114
  z51 := Tryd.sizeOf114
  v51 := Tryd.zeroValue114 }
end Go.Proofs

/- Bytes behind bytes of the call's own, and quoteOne: one scalar in quotes; conditions: the bytes are not too many. -/
namespace Go.Proofs.YtjpmjcadnnglnaaDoor
open Go.RowKit
open Go.Lib

theorem step_append_own {P : Program} (w : World) {ops : Array Oper} {o : Oper} {a : Act} {K : Act → World → Prop} {Q : Exit → Act → World → Prop} {E : Prop} (hgd : o.guard = none) (s x : Operand) (t : TypeId)
    (ho : o.op = .call { callee := .builtin .append, args := #[s, x], argTypes := #[t, t] })
    (base : Nat) (e : TypeId) (i : TypeInfo) (z : Value) (size bytes : Nat) (ht : P.underlying t = some (.slice e)) (hi : P.info? e = some i) (hz : i.zero = some z)
    (hsize : i.size = size) (hby : i.bytes = bytes) (hzs : z.cells.size = size) (hsz : 0 < size)
    (v : Value) (n : Nat) (xs : List Value) (hs : a.eval s = v) (hown : w.ownsRow base e size v n xs)
    (ad : Addr) (m c : Nat) (news : List Value) (hx : a.eval x = .slice (some ad) m c) (hl : news.length = m * size) (hnews : ∀ j u, news[j]? = some u → w.cell? (ad.add j) = some u) (h1 : ∀ u ∈ news, u.oneCell' = true)
    (h63 : n + m ≤ maxLen) (hbytes : (n + m) * bytes ≤ 140737488355328) (hbase : base ≤ w.heap.size) (H : Nat) (hH : w.heap.size = H)
    (h : ∀ v' w', w'.ownsRow base e size v' (n + m) (xs ++ news) → w.grownBy w' v.ownBlock → (v'.ownBlock = v.ownBlock ∨ v'.ownBlock = some H) → K (a.put o.dst v') w') :
    if Region.wanted o (yielded ops a.tmps) = true then Oper.wp P o a w K Q else E := by
  have hw : Region.wanted o (yielded ops a.tmps) = true := by simp [Region.wanted, hgd]
  rw [if_pos hw]
  obtain ⟨v', w', hr, h2, h3, h4, h5⟩ := run_append_own_at (P := P) w base t o.type e i z size bytes ht hi hz hsize hby hzs hsz v n xs hown ad m c news hl hnews h1 h63 hbytes hbase
  unfold Oper.wp execOp
  simp only [ho, resolve, invoke, builtin, Sem.run_bind, Sem.run_pure, Result.andThen_ok, List.map_toArray, List.map_cons, List.map_nil, hs, hx, hr]
  exact h v' w' h2 h3 (by rw [← hH]; exact h5)


def bv (l : Bs) : List Value := l.map fun b => .int .u8 (b.toNat : Int)
theorem bv_append (a b : Bs) : bv (a ++ b) = bv a ++ bv b := by unfold bv; rw [List.map_append]
theorem bv_length (a : Bs) : (bv a).length = a.length := by unfold bv; rw [List.length_map]
/-- A list of bytes of the call's own. -/
def OB (w : World) (v : Value) (l : Bs) : Prop := w.ownsRow 0 5 1 v l.length (bv l)
theorem OB.nil (w : World) : OB w (.slice none 0 0) [] := World.ownsRow_nil _ _ _ _
theorem OB.kept {w w' : World} {v : Value} {s : Bs} {S : Nat → Prop} (h : OB w v s) (tc : Touch S w w') (hn : ∀ g, v.ownBlock = some g → ¬ S g) : OB w' v s := by
  refine ⟨h.1, ?_⟩
  rcases h.2 with h0 | ⟨g, cap, cur, hv, hg, hh, rest⟩
  · exact .inl h0
  · exact .inr ⟨g, cap, cur, hv, hg, (tc.block g (lt_of_block hh) (hn g (by rw [hv]; rfl))).trans hh, rest⟩
/-- What was put behind them. -/
structure Grew (w w' : World) (v v' : Value) (l' : Bs) : Prop where
  own : OB w' v' l'
  touch : Touch (fun k => v.ownBlock = some k) w w'
  pos : v'.ownBlock = v.ownBlock ∨ ∃ g, v'.ownBlock = some g ∧ w.heap.size ≤ g
theorem Grew.refl {w : World} {v : Value} {l : Bs} (h : OB w v l) : Grew w w v v l := ⟨h, Touch.refl _ _, .inl rfl⟩
theorem Grew.trans {w w1 w2 : World} {v v1 v2 : Value} {l1 l2 : Bs} (h : Grew w w1 v v1 l1) (k : Grew w1 w2 v1 v2 l2) : Grew w w2 v v2 l2 := by
  refine ⟨k.own, h.touch.trans k.touch (fun i hi e => ?_), ?_⟩
  · rcases h.pos with a | ⟨g, a, b⟩
    · rw [← a]; exact e
    · rw [a] at e
      cases e
      omega
  · rcases k.pos with a | ⟨g, a, b⟩
    · rw [a]; exact h.pos
    · exact .inr ⟨g, a, Nat.le_trans h.touch.size b⟩
theorem Grew.still {w w1 w2 : World} {v v1 : Value} {l1 : Bs} (h : Grew w w1 v v1 l1) (k : Touch (fun _ => False) w1 w2) : Grew w w2 v v1 l1 :=
  ⟨h.own.kept k (fun _ _ e => e), h.touch.trans k (fun _ _ e => e.elim), h.pos⟩
theorem Grew.from {w0 w w1 : World} {v v1 : Value} {l1 : Bs} (k : Touch (fun _ => False) w0 w) (h : Grew w w1 v v1 l1) : Grew w0 w1 v v1 l1 :=
  ⟨h.own, Touch.trans (k.mono (fun _ _ e => e.elim)) h.touch (fun _ _ e => e), h.pos.imp id (fun ⟨g, a, b⟩ => ⟨g, a, Nat.le_trans k.size b⟩)⟩
theorem grew_of {w w1 : World} {v v' : Value} {l m : Bs} {o : Obj} (hown : w1.ownsRow 0 5 1 v' (l.length + m.length) (bv l ++ bv m)) (hg : (w.alloc o).grownBy w1 v.ownBlock) (hat : v'.ownBlock = v.ownBlock ∨ v'.ownBlock = some (w.heap.size + 1)) : Grew w w1 v v' (l ++ m) := by
  refine ⟨?_, Touch.grown ((Touch.refl _ w).alloc o) hg (fun k e _ => e), hat.imp id (fun e => ⟨_, e, by omega⟩)⟩
  unfold OB
  rw [bv_append, List.length_append]
  exact hown
theorem grew_str {w w1 : World} {v v' : Value} {l m : Bs} (hown : w1.ownsRow 0 5 1 v' (l.length + m.length) (bv l ++ bv m)) (hg : w.grownBy w1 v.ownBlock) (hat : v'.ownBlock = v.ownBlock ∨ ∃ g, v'.ownBlock = some g ∧ w.heap.size ≤ g) : Grew w w1 v v' (l ++ m) := by
  refine ⟨?_, Touch.grown (Touch.refl _ w) hg (fun k e _ => e), hat⟩
  unfold OB
  rw [bv_append, List.length_append]
  exact hown
theorem info5b : (Tryd.prog.info? 5).map (fun i => (i.zero, i.size, i.bytes)) = some (some (.int .u8 0), 1, 1) := by kernel_rfl
theorem OB.conv {w : World} {v : Value} {s : Bs} (h : OB w v s) : (convert 97 9 v).run Tryd.prog w = .ok (.string ⟨s.toArray⟩) w := by
  have h2 := h.2
  rcases h2 with ⟨hv, h0⟩ | ⟨g, cap, cur, hv, hg, hh, rest⟩
  · obtain rfl : s = [] := List.eq_nil_of_length_eq_zero h0
    rw [hv, run_convert_bytes_string w 97 9 5 none 0 0 Tryd.underlying97 Tryd.underlying5 Tryd.underlying9]
    rfl
  · rw [hv]
    refine run_convert_bytes_back w 97 9 5 ⟨g, 0, none⟩ cap s Tryd.underlying97 Tryd.underlying5 Tryd.underlying9 (fun j hj => ?_)
    exact World.ownsRow.cells (g := g) h (by rw [hv]; rfl) j _ (by unfold bv; rw [List.getElem?_map, List.getElem?_eq_getElem hj]; rfl)

def signsB : ByteArray := ⟨#[34, 92, 8, 12, 10, 13, 9, 47]⟩
def lettersB : ByteArray := ⟨#[34, 92, 98, 102, 110, 114, 116, 47]⟩
def hexB : ByteArray := ⟨#[48, 49, 50, 51, 52, 53, 54, 55, 56, 57, 97, 98, 99, 100, 101, 102]⟩
def chr (x : Nat) : UInt8 := x.toUInt8
set_option maxRecDepth 100000 in
set_option maxHeartbeats 4000000 in
theorem index_hex (y : Nat) (hy : y < 16) (w : World) : (Instr.index 9 (.string ⟨#[48, 49, 50, 51, 52, 53, 54, 55, 56, 57, 97, 98, 99, 100, 101, 102]⟩) (.int .i64 (y : Nat))).run Tryd.prog w = .ok (.int .u8 ((hexB[y]'(by show y < 16; exact hy)).toNat : Int)) w := by
  rcases (show y = 0 ∨ y = 1 ∨ y = 2 ∨ y = 3 ∨ y = 4 ∨ y = 5 ∨ y = 6 ∨ y = 7 ∨ y = 8 ∨ y = 9 ∨ y = 10 ∨ y = 11 ∨ y = 12 ∨ y = 13 ∨ y = 14 ∨ y = 15 by omega) with rfl | rfl | rfl | rfl | rfl | rfl | rfl | rfl | rfl | rfl | rfl | rfl | rfl | rfl | rfl | rfl <;> rfl
set_option maxRecDepth 100000 in
set_option maxHeartbeats 4000000 in
theorem append_ascii (x : Nat) (l : Bs) (v : Value) (w : World) (ho : OB w v l) (hl : l.length ≤ 1099511627776) (hx : x < 128) :
    Calls Tryd.prog 70 #[v, .int .i32 (x : Nat)] w fun e w' => ∃ v', e = .returned v' ∧ Grew w w' v v' (l ++ [x.toUInt8]) := by
  obtain ⟨i0, hi5, hz0, hz1, hz2⟩ := info_parts info5b
  obtain ⟨ad, cp, hv⟩ := own_shape ho
  subst hv
  obtain ⟨N, hN⟩ : ∃ N, l.length = N := ⟨_, rfl⟩
  have OW := hid (show w.ownsRow 0 5 1 (.slice ad N cp) N (bv l) from by rw [← hN]; exact ho)
  rw [hN]
  rw [hN] at hl
  have HN := hid hN
  clear hN ho
  have hxB : ((x : Nat) : Int) ≤ 127 := by omega
  have HB := hid (show bv [x.toUInt8] = [.int .u8 (x : Int)] from by
    have h8 : x.toUInt8.toNat = x := Nat.mod_eq_of_lt (by omega)
    simp [bv, h8])
  go_enter Tryd.func70, Tryd.ntmps70
  go_wp2_with (at_builtin; (refine wpList_append_own_at _ rfl _ _ 97 rfl 0 5 i0 (.int .u8 0) 1 1 Tryd.underlying97 hi5 hz0 hz1 hz2 rfl (by decide) _ _ _ rfl (OW.out.alloc _) ⟨w.heap.size, 0, none⟩ 1 1 [.int .u8 (x : Int)] rfl rfl (row_new w [.int .u8 (x : Int)] 5) (by intro u hu; simp at hu; subst hu; rfl) (by unfold maxLen; omega) (by omega) (Nat.zero_le _) ?_))
  intro v' w2 hown hgrow _ hat
  go_wp2
  go_ret
  exact ⟨v', rfl, grew_of (m := [x.toUInt8]) (by rw [HN.out, HB.out]; exact hown) hgrow hat⟩
end Go.Proofs.YtjpmjcadnnglnaaDoor
