/- Texts of this proof, one behind the other: what each says stands ahead of it. -/
import Derived.Test.YtohcngiiijokkaaDoorM32
import Derived.BigQuiet
/- Parts in memory, to be read; what GzJoined says, plain; conditions: those told. -/
namespace Go.Proofs.YtohcngiiijokkaaDoor
open Go.RowKit

theorem flatP_at : ∀ (l : List Gz.Part) (i : Nat) (h : i < l.length) (j : Nat), j < 9 → (flatP l)[i * 9 + j]? = (partC l[i])[j]?
  | [], i, h, _, _ => by simp at h
  | x :: l, i, h, j, hj => by
    have e : flatP (x :: l) = (partC x).toList ++ flatP l := rfl
    have hlen : (partC x).toList.length = 9 := rfl
    rw [e]
    cases i with
    | zero =>
      rw [List.getElem?_append_left (by rw [hlen]; omega), Nat.zero_mul, Nat.zero_add]
      simp
    | succ i =>
      have ih := flatP_at l i (by simpa using h) j hj
      rw [List.getElem?_append_right (by rw [hlen]; omega), hlen, show (i + 1) * 9 + j - 9 = i * 9 + j by omega, ih]
      simp
def Pls (w : World) (a : Option Addr) (l : List Gz.Part) : Prop := l = [] ∨ ∃ b, a = some ⟨b, 0, none⟩ ∧ b < w.heap.size ∧ ∀ i (h : i < l.length) (j : Nat), j < 9 → w.cell? ⟨b, i * 9 + j, none⟩ = (partC l[i])[j]?
theorem own_pls {w : World} {e : TypeId} {v : Value} {l : List Gz.Part} (h : w.ownsRow 0 e 9 v l.length (flatP l)) : ∃ a c, v = .slice a l.length c ∧ Pls w a l := by
  rcases h.2 with ⟨h1, h2⟩ | ⟨g, cap, cur, hv, hg, hh, hle, _⟩
  · exact ⟨none, 0, by rw [h1, h2], .inl (List.eq_nil_of_length_eq_zero h2)⟩
  · refine ⟨some ⟨g, 0, none⟩, cap, hv, .inr ⟨g, rfl, lt_of_block hh, fun i hi j hj => ?_⟩⟩
    have h0 := flatP_at l i hi j hj
    have hsz : j < (partC l[i]).size := by show j < 9; exact hj
    rw [Array.getElem?_eq_getElem hsz] at h0 ⊢
    have c := h.cells (g := g) (by rw [hv]; rfl) _ _ h0
    rw [add_zero] at c
    exact c
theorem Pls.keep {w w' : World} {a : Option Addr} {l : List Gz.Part} (h : Pls w a l) (t : Touch (fun _ => False) w w') : Pls w' a l := by
  rcases h with h | ⟨b, ha, hb, hc⟩
  · exact .inl h
  · exact .inr ⟨b, ha, Nat.lt_of_lt_of_le hb t.size, fun i hi j hj => (t.cell (p := ⟨b, i * 9 + j, none⟩) hb id).trans (hc i hi j hj)⟩
theorem Pls.drewN {w : World} {a : Option Addr} {l : List Gz.Part} (h : Pls w a l) (n : Nat) : Pls (w.drewN n) a l := h.keep ((Touch.refl _ w).drewN n)
/-- What Read answers, whether it erred or not. -/
theorem rpost {e0 : TypeId} {w w' : World} {r : Except Gz.Bad (List Gz.Part)} {e : Ending} (h : RPost e0 w r e w') : ∃ a c l, ∃ y : Gz.Bad, e = .returned (.tuple #[.slice a l.length c, .agg #[.int .i64 (y.1 : Nat), .int .i64 (y.2 : Nat)]]) ∧ Pls w' a l ∧ Touch (fun _ => False) w w' ∧ (r = .error y ∧ l = [] ∨ r = .ok l ∧ y = (0, 0)) := by
  cases r with
  | error y =>
    obtain ⟨rfl, t⟩ := h
    exact ⟨none, 0, [], y, rfl, .inl rfl, t, .inl ⟨rfl, rfl⟩⟩
  | ok l =>
    obtain ⟨v, rfl, o, t⟩ := h
    obtain ⟨a, c, rfl, p⟩ := own_pls o.own
    exact ⟨a, c, l, (0, 0), rfl, p, t, .inr ⟨rfl, rfl⟩⟩
namespace Gz
theorem extra_bad {s : ByteArray} {t : Nat} {x : Bad} (h : extraAt s t = .error x) : x.1 ≠ 0 := extra_code h
theorem texts_code {s : ByteArray} {t f : Nat} {x : Bad} (h : textsAt s t f = .error x) : x.1 ≠ 0 := by
  unfold textsAt at h
  split at h
  · rename_i h1
    cases h
    unfold perhaps at h1
    split at h1
    · exact extra_code h1
    · cases h1
  · split at h
    · rename_i h1
      cases h
      unfold perhaps at h1
      split at h1
      · exact name_code h1
      · cases h1
    · split at h
      · rename_i h1
        cases h
        unfold perhaps at h1
        split at h1
        · exact name_code h1
        · cases h1
      · cases h
theorem part_code {s : ByteArray} {p most : Nat} {x : Bad} (h : partR s p most (.error x)) : x.1 ≠ 0 := by
  unfold partR at h
  split at h
  · rename_i h1
    cases h
    exact head_code h1
  · split at h
    · rename_i h1
      cases h
      exact texts_code h1
    · split at h
      · rename_i h1
        cases h
        exact sum_code h1
      · obtain ⟨q, hq, hr⟩ := h
        split at hr
        · cases hr
          exact pack_code hq
        · cases hr
theorem rd_code {s : ByteArray} {p most n : Nat} {r : Except Bad (List Part)} (h : Rd s p most n r) : ∀ {x}, r = .error x → x.1 ≠ 0 := by
  induction h with
  | fin => intro x h; cases h
  | many => intro x h; cases h; simp
  | bad p most n h hn b k => intro x h; cases h; exact part_code k
  | more => intro x h; cases h
  | later p most n h hn x e k b r ih => intro y h; cases h; exact ih rfl
theorem rd_some {s : ByteArray} {p most : Nat} {l : List Part} (h : Rd s p most 0 (.ok l)) : l.length ≠ 0 := by
  cases h with
  | fin _ _ _ h0 => exact absurd rfl h0
  | more => simp
theorem rd_empty {s : ByteArray} (hs : s.size = 0) {most : Nat} {r : Except Bad (List Part)} (h : Rd s 0 most 0 r) : r = .error (12, 0) := by
  have hk : partR s 0 most (.error (12, 0)) := by
    have : headAt s 0 = .error (12, 0) := by unfold headAt; rw [if_pos (.inl (by omega))]
    unfold partR
    rw [this]
  exact h.same (.bad 0 most 0 (.inl rfl) (by decide) _ hk)
/-- Two files one behind the other. -/
theorem joined {a b : ByteArray} {r1 r2 r3 : Except Bad (List Part)} (h1 : Rd a 0 1048576 0 r1) (h2 : Rd b 0 1048576 0 r2) (h3 : Rd (a ++ b) 0 2097152 0 r3) {l1 l2 l3 : List Part} {y1 y2 y3 : Bad}
    (k1 : r1 = .error y1 ∧ l1 = [] ∨ r1 = .ok l1 ∧ y1 = (0, 0)) (k2 : r2 = .error y2 ∧ l2 = [] ∨ r2 = .ok l2 ∧ y2 = (0, 0)) (k3 : r3 = .error y3 ∧ l3 = [] ∨ r3 = .ok l3 ∧ y3 = (0, 0)) :
    (y1.1 ≠ 0 ∧ l1.length = 0) ∨
    (y1 = (0, 0) ∧ (1024 ≤ l1.length ∨ y2.1 = 2)) ∨
    (y1 = (0, 0) ∧ l1.length < 1024 ∧ y2.1 ≠ 2 ∧ y2.1 ≠ 0 ∧ b.size = 0 ∧ l3.length = l1.length) ∨
    (y1 = (0, 0) ∧ l1.length < 1024 ∧ y2.1 ≠ 2 ∧ y2.1 ≠ 0 ∧ b.size ≠ 0 ∧ y3.1 ≠ 0 ∧ l3.length = 0) ∨
    (y1 = (0, 0) ∧ y2 = (0, 0) ∧ l1.length < 1024 ∧ 1024 < l1.length + l2.length ∧ y3.1 = 16) ∨
    (y1 = (0, 0) ∧ y2 = (0, 0) ∧ y3 = (0, 0) ∧ l1.length < 1024 ∧ l1.length + l2.length ≤ 1024 ∧ l3 = l1 ++ l2) := by
  rcases k1 with ⟨rfl, rfl⟩ | ⟨rfl, rfl⟩
  · exact .inl ⟨rd_code h1 rfl, rfl⟩
  by_cases hm : 1024 ≤ l1.length
  · exact .inr (.inl ⟨rfl, .inl hm⟩)
  have hl0 := rd_some h1
  have hw := Win.left a b
  obtain ⟨f1, f2⟩ := rd_first hw h1 rfl (most' := 2097152) (by decide) (Nat.zero_le _) (.inl (by omega))
  rcases k2 with ⟨rfl, rfl⟩ | ⟨rfl, rfl⟩
  · by_cases hc : y2.1 = 2
    · exact .inr (.inl ⟨rfl, .inr hc⟩)
    have hc0 := rd_code h2 rfl
    by_cases hb : b.size = 0
    · refine .inr (.inr (.inl ⟨rfl, by omega, hc, hc0, hb, ?_⟩))
      have g := f2 (r2 := .ok []) (fun hne => .fin _ _ _ hne (by rw [ByteArray.size_append]; omega))
      have e := h3.same g
      rcases k3 with ⟨rfl, rfl⟩ | ⟨rfl, rfl⟩
      · cases e
      · simp only [addTo, List.append_nil] at e
        cases e
        rfl
    · refine .inr (.inr (.inr (.inl ⟨rfl, by omega, hc, hc0, hb, ?_⟩)))
      have hq := rd_second (Win.right a b) (by rw [ByteArray.size_append]) h2 (most' := 2097152 - sizes l1) (n' := l1.length + 0) (by omega) (Nat.zero_le _) (Nat.zero_le _) (by omega) (by omega) (fun _ => by omega)
      obtain ⟨c2, a2, hc2, hr⟩ := hq.2 y2.1 y2.2 rfl hc hc0
      have e := h3.same (f2 (fun _ => hr))
      rcases k3 with ⟨rfl, rfl⟩ | ⟨rfl, rfl⟩
      · cases e
        exact ⟨hc2, rfl⟩
      · cases e
  · have hb : b.size ≠ 0 := fun h => by
      have := rd_empty h h2
      cases this
    have hq := rd_second (Win.right a b) (by rw [ByteArray.size_append]) h2 (most' := 2097152 - sizes l1) (n' := l1.length + 0) (by omega) (Nat.zero_le _) (Nat.zero_le _) (by omega) (by omega) (fun _ => by omega)
    obtain ⟨g1, g2⟩ := hq.1 l2 rfl
    by_cases hmany : 1024 < l1.length + l2.length
    · obtain ⟨a2, hr⟩ := g2 (by omega)
      have e := h3.same (f2 (fun _ => hr))
      refine .inr (.inr (.inr (.inr (.inl ⟨rfl, rfl, by omega, hmany, ?_⟩))))
      rcases k3 with ⟨rfl, rfl⟩ | ⟨rfl, rfl⟩
      · cases e
        rfl
      · cases e
    · have hr := g1 (by omega)
      have e := h3.same (f2 (fun _ => hr))
      refine .inr (.inr (.inr (.inr (.inr ⟨rfl, rfl, ?_⟩))))
      rcases k3 with ⟨rfl, rfl⟩ | ⟨rfl, rfl⟩
      · cases e
      · cases e
        exact ⟨rfl, by omega, by omega, rfl⟩
end Gz
set_option maxRecDepth 100000 in
theorem speaks_yes (w : World) (hq : Quart w) : Calls Tryd.prog 5 #[] w fun e w' => e = .returned (.bool true) ∧ w = w' := by
  have K := hid (sum_any ⟨#[49, 50, 51, 52, 53, 54, 55, 56, 57]⟩ (by decide) w hq)
  rw [show Gz.sum ⟨#[49, 50, 51, 52, 53, 54, 55, 56, 57]⟩ = 3421780262 by decide +kernel] at K
  go_enter Tryd.func5, Tryd.ntmps5
  go_wp2_with fail
  refine K.out.mono ?_
  rintro e w1 ⟨rfl, rfl⟩
  clear K
  go_wp2
  go_ret
  exact ⟨rfl, rfl⟩
end Go.Proofs.YtohcngiiijokkaaDoor

/- GzJoined's walk; conditions: those told. -/
namespace Go.Proofs.YtohcngiiijokkaaDoor
open Go.RowKit

theorem Pls.at_ {w : World} {a : Option Addr} {l : List Gz.Part} (h : Pls w a l) (k : Nat) (hk : k < l.length) : ∃ b, a = some ⟨b, 0, none⟩ ∧ ∀ P, l[k]? = some P → ∀ j, j < 9 → w.cell? ⟨b, k * 9 + j, none⟩ = (partC P)[j]? := by
  rcases h with h | ⟨b, h1, _, h3⟩
  · rw [h] at hk
    simp at hk
  · refine ⟨b, h1, fun P hP j hj => ?_⟩
    rw [List.getElem?_eq_getElem hk] at hP
    cases hP
    exact h3 k hk j hj
theorem Gz.rd_few {s : ByteArray} {p most n : Nat} {r : Except Gz.Bad (List Gz.Part)} (h : Gz.Rd s p most n r) : ∀ {l}, r = .ok l → n ≤ 1024 → l.length + n ≤ 1024 := by
  induction h with
  | fin => intro l h hn; cases h; simpa using hn
  | many => intro l h; cases h
  | bad => intro l h; cases h
  | more p most n h hn x e k l r ih =>
    intro l2 h2 _
    cases h2
    have := ih rfl (by omega)
    simp only [List.length_cons]
    omega
  | later => intro l h; cases h
set_option maxRecDepth 100000 in
set_option maxHeartbeats 8000000 in
theorem gzJoined_walk (a b : ByteArray) (w : World) (hq : Quart w) (hs : a.size + b.size ≤ 1048576) : Calls Tryd.prog 3 #[.string a, .string b] w fun e w' => e = .returned (.bool true) ∧ Touch (fun _ => False) w w' := by
  have HQ := hid hq
  have K1 := hid (fun w hq => read_any a 1048576 w hq (by omega) (by decide))
  have K2 := hid (fun w hq => read_any b 1048576 w hq (by omega) (by decide))
  have K3 := hid (fun w hq => read_any (a ++ b) 2097152 w hq (by rw [ByteArray.size_append]; omega) (by decide))
  have hab : a.size + b.size ≤ 9223372036854775807 := by omega
  clear hq
  go_enter Tryd.func3, Tryd.ntmps3
  go_wp2_with fail
  refine (speaks_yes w HQ.out).mono ?_
  rintro e w1 ⟨rfl, rfl⟩
  go_wp2_with fail
  refine (K1.out w HQ.out).mono ?_
  rintro e w1 ⟨r1, hr1, hp1⟩
  obtain ⟨a1, c1, l1, y1, rfl, pl1, t1, kk1⟩ := rpost hp1
  have HR1 := hid hr1
  have KK1 := hid kk1
  have al1 := (Touch.refl (fun _ => False) w1).alloc (.cells #[.int .i64 (y1.1 : Nat), .int .i64 (y1.2 : Nat)] 26)
  have T1 := hid ((t1.trans al1 (fun _ _ e => e)))
  have P1 := hid (pl1.keep al1)
  have F1 := hid (cells_new w1 #[.int .i64 (y1.1 : Nat), .int .i64 (y1.2 : Nat)] 26)
  have Q1 := hid (HQ.out.new T1.out id)
  clear hr1 hp1 pl1 t1 kk1 al1 K1
  go_wp2_with fail
  generalize w1.alloc (.cells #[.int .i64 (y1.1 : Nat), .int .i64 (y1.2 : Nat)] 26) = w2 at *
  generalize w1.heap.size = q6 at *
  refine (K2.out w2 Q1.out).mono ?_
  rintro e w3 ⟨r2, hr2, hp2⟩
  obtain ⟨a2, c2, l2, y2, rfl, pl2, t2, kk2⟩ := rpost hp2
  have HR2 := hid hr2
  have KK2 := hid kk2
  have al2 := (Touch.refl (fun _ => False) w3).alloc (.cells #[.int .i64 (y2.1 : Nat), .int .i64 (y2.2 : Nat)] 26)
  have tt := t2.trans al2 (fun _ _ e => e)
  have T2 := hid (T1.out.trans tt (fun _ _ e => e))
  have P2 := hid (pl2.keep al2)
  have P1' := hid (P1.out.keep tt)
  have F1' := hid (tt.still F1.out)
  have F2 := hid (cells_new w3 #[.int .i64 (y2.1 : Nat), .int .i64 (y2.2 : Nat)] 26)
  have Q2 := hid (HQ.out.new T2.out id)
  clear hr2 hp2 pl2 t2 kk2 al2 tt K2 T1 P1 F1 Q1
  go_wp2_with fail
  generalize w3.alloc (.cells #[.int .i64 (y2.1 : Nat), .int .i64 (y2.2 : Nat)] 26) = w4 at *
  generalize w3.heap.size = q8 at *
  refine (K3.out _ (by exact Q2.out)).mono ?_
  rintro e w5 ⟨r3, hr3, hp3⟩
  obtain ⟨a3, c3, l3, y3, rfl, pl3, t3, kk3⟩ := rpost hp3
  have C := hid (Gz.joined HR1.out HR2.out hr3 KK1.out KK2.out kk3)
  have al3 := (Touch.refl (fun _ => False) w5).alloc (.cells #[.int .i64 (y3.1 : Nat), .int .i64 (y3.2 : Nat)] 26)
  have tt := t3.trans al3 (fun _ _ e => e)
  have T3 := hid (T2.out.trans tt (fun _ _ e => e))
  have P3 := hid (pl3.keep al3)
  have P1 := hid (P1'.out.keep tt)
  have P2' := hid (P2.out.keep tt)
  have f1 := tt.still F1'.out
  have f2 := tt.still F2.out
  have f3 := cells_new w5 #[.int .i64 (y3.1 : Nat), .int .i64 (y3.2 : Nat)] 26
  have HL2 := hid (show l2.length ≤ 1024 from by
    rcases KK2.out with ⟨_, h⟩ | ⟨h, _⟩
    · rw [h]; simp
    · exact Gz.rd_few HR2.out h (Nat.zero_le _))
  clear hr3 hp3 pl3 t3 kk3 al3 tt K3 T2 P1' F1' F2 Q2 P2 HR1 HR2 KK1 KK2
  go_upto_region 6 with fail
  generalize w5.alloc (.cells #[.int .i64 (y3.1 : Nat), .int .i64 (y3.2 : Nat)] 26) = w6 at *
  generalize w5.heap.size = q10 at *
  have u0 := cell_two0 f1
  have u1 := cell_two1 f1
  have v0 := cell_two0 f2
  have v1 := cell_two1 f2
  have x0 := cell_two0 f3
  have x1 := cell_two1 f3
  clear f1 f2 f3
  rcases C.out with ⟨h1, h2⟩ | ⟨h1, h2⟩ | ⟨h1, h2, h3, h4, h5, h6⟩ | ⟨h1, h2, h3, h4, h5, h6, h7⟩ | ⟨h1, h2, h3, h4, h5⟩ | ⟨h1, h2, h3, h4, h5, h6⟩
  · have e1 : ((y1.1 : Int) == 0) = false := by rw [beq_eq_false_iff_ne]; omega
    have e2 : ((l1.length : Int) == 0) = true := by rw [beq_iff_eq]; omega
    clear h1 h2 C
    go_wp2
    go_ret
    exact ⟨rfl, T3.out⟩
  · subst h1
    by_cases h3 : 1024 ≤ l1.length
    · have e1 : (1024 : Int) ≤ (l1.length : Int) := by omega
      clear h2 C h3
      go_wp2
      go_ret
      exact ⟨rfl, T3.out⟩
    · have e1 : ¬ ((1024 : Int) ≤ (l1.length : Int)) := by omega
      have e2 : ((y2.1 : Int) == 2) = true := by rw [beq_iff_eq]; omega
      clear h2 C h3
      go_wp2
      go_ret
      exact ⟨rfl, T3.out⟩
  · subst h1
    have e1 : ¬ ((1024 : Int) ≤ (l1.length : Int)) := by omega
    have e2 : ((y2.1 : Int) == 2) = false := by rw [beq_eq_false_iff_ne]; omega
    have e3 : ((y2.1 : Int) == 0) = false := by rw [beq_eq_false_iff_ne]; omega
    have e4 : b.toList.isEmpty = true := by rw [Lib.toList_data, List.isEmpty_iff, ← List.length_eq_zero_iff, Array.length_toList]; exact h5
    have e5 : ((l3.length : Int) == (l1.length : Int)) = true := by rw [beq_iff_eq]; omega
    clear h2 h3 h4 h5 h6 C
    go_wp2
    go_ret
    exact ⟨rfl, T3.out⟩
  · subst h1
    have e1 : ¬ ((1024 : Int) ≤ (l1.length : Int)) := by omega
    have e2 : ((y2.1 : Int) == 2) = false := by rw [beq_eq_false_iff_ne]; omega
    have e3 : ((y2.1 : Int) == 0) = false := by rw [beq_eq_false_iff_ne]; omega
    have e4 : b.toList.isEmpty = false := by
      rw [Bool.eq_false_iff]
      intro h
      rw [Lib.toList_data, List.isEmpty_iff, ← List.length_eq_zero_iff, Array.length_toList] at h
      exact h5 h
    have e5 : ((y3.1 : Int) == 0) = false := by rw [beq_eq_false_iff_ne]; omega
    have e5b : ((y3.1 : Int) != 0) = true := by rw [bne_iff_ne]; omega
    have e5c : ¬ ((y3.1 : Int) = 0) := by omega
    have e6 : ((l3.length : Int) == 0) = true := by rw [beq_iff_eq]; omega
    clear h2 h3 h4 h5 h6 h7 C
    go_wp2
    go_ret
    exact ⟨rfl, T3.out⟩
  · subst h1
    subst h2
    have e1 : ¬ ((1024 : Int) ≤ (l1.length : Int)) := by omega
    have e2 : (1024 : Int) < (l1.length : Int) + (l2.length : Int) := by omega
    have e3 : ((y3.1 : Int) == 16) = true := by rw [beq_iff_eq]; omega
    have hl2 : l2.length ≤ 140737488355328 := by have := HL2.out; omega
    clear h3 h4 h5 C
    go_wp2
    go_ret
    exact ⟨rfl, T3.out⟩
  · subst h1
    subst h2
    subst h3
    subst h6
    have e1 : ¬ ((1024 : Int) ≤ (l1.length : Int)) := by omega
    have e2 : ¬ ((1024 : Int) < (l1.length : Int) + (l2.length : Int)) := by omega
    have hl2 : l2.length ≤ 1024 := HL2.out
    obtain ⟨L1, hL1⟩ : ∃ L1, L1 = l1.length := ⟨_, rfl⟩
    obtain ⟨L2, hL2⟩ : ∃ L2, L2 = l2.length := ⟨_, rfl⟩
    obtain ⟨L3, hL3⟩ : ∃ L3, L3 = (l1 ++ l2).length := ⟨_, rfl⟩
    have h12 : L3 = L1 + L2 := by rw [hL1, hL2, hL3, List.length_append]
    rw [← hL1, ← hL2, ← hL3]
    rw [← hL1] at h4 h5 e1 e2
    rw [← hL2] at h5 e2 hl2
    have e3 : ((L3 : Int) == (L1 : Int) + (L2 : Int)) = true := by rw [beq_iff_eq]; omega
    have HL := hid (show L1 = l1.length ∧ L2 = l2.length ∧ L3 = L1 + L2 from ⟨hL1, hL2, h12⟩)
    clear hL1 hL2 hL3 h12 C
    go_wp2_with fail
    go_loopg [11] L3 (fun gk v11 wq => ∃ k : Nat, v11 = .int .i64 (k : Nat) ∧ k + gk = L3 ∧ Touch (fun _ => False) w6 wq)
    case atStart => exact ⟨0, rfl, by omega, Touch.refl _ _⟩
    case round =>
      obtain ⟨k, rfl, hk, tc⟩ := hrel
      have TC := hid tc
      have PA := hid (P1.out.keep tc)
      have PB := hid (P2'.out.keep tc)
      have PC := hid (P3.out.keep tc)
      clear tc e3 u0 u1 v0 v1 x0 x1
      by_cases hlt : k < L3
      · obtain ⟨gk, rfl⟩ : ∃ j, gk = j + 1 := ⟨gk - 1, by omega⟩
        have hltI : (k : Int) < (L3 : Int) := by omega
        go_upto_region 19 with fail
        go_cut [133] (fun v wd => v = .bool false ∧ Touch (fun _ => False) wr wd)
        case first =>
          by_cases hA : k < L1
          · have hAI : (k : Int) < (L1 : Int) := by omega
            have hAd : decide ((k : Int) < (L1 : Int)) = true := decide_eq_true hAI
            have hAe : decide ((L1 : Int) ≤ (k : Int)) = false := decide_eq_false (by omega)
            have hAf : decide (L1 ≤ k) = false := decide_eq_false (by omega)
            have hAg : decide (k < L1) = true := decide_eq_true hA
            have hAh : ¬ (L1 ≤ k) := by omega
            obtain ⟨P, hP1, hP3⟩ : ∃ P, l1[k]? = some P ∧ (l1 ++ l2)[k]? = some P := by
              have h1 : k < l1.length := by have := HL.out; omega
              exact ⟨l1[k], List.getElem?_eq_getElem h1, by rw [List.getElem?_append_left h1]; exact List.getElem?_eq_getElem h1⟩
            obtain ⟨b1, rfl, hc1⟩ := PA.out.at_ k (by have := HL.out; omega)
            obtain ⟨b3, rfl, hc3⟩ := PC.out.at_ k (by rw [List.length_append]; have := HL.out; omega)
            replace hc1 := hc1 P hP1
            replace hc3 := hc3 P hP3
            clear hP1 hP3
            obtain ⟨pn, pc, px, pt, ph, pm, po, ps, pd⟩ := P
            have e0 : wr.cell? ⟨b1, k * 9, none⟩ = some (.string pn) := hc1 0 (by decide)
            have e1 : wr.cell? ⟨b1, k * 9 + 1, none⟩ = some (.string pc) := hc1 1 (by decide)
            have e2 : wr.cell? ⟨b1, k * 9 + 2, none⟩ = some (.string px) := hc1 2 (by decide)
            have e3 : wr.cell? ⟨b1, k * 9 + 3, none⟩ = some (.bool pt) := hc1 3 (by decide)
            have e4 : wr.cell? ⟨b1, k * 9 + 4, none⟩ = some (.bool ph) := hc1 4 (by decide)
            have e5 : wr.cell? ⟨b1, k * 9 + 5, none⟩ = some (.int .i64 (pm : Nat)) := hc1 5 (by decide)
            have e6 : wr.cell? ⟨b1, k * 9 + 6, none⟩ = some (.int .i64 (po : Nat)) := hc1 6 (by decide)
            have e7 : wr.cell? ⟨b1, k * 9 + 7, none⟩ = some (.int .i64 (ps : Nat)) := hc1 7 (by decide)
            have e8 : wr.cell? ⟨b1, k * 9 + 8, none⟩ = some (.string pd) := hc1 8 (by decide)
            have d0 : wr.cell? ⟨b3, k * 9, none⟩ = some (.string pn) := hc3 0 (by decide)
            have d1 : wr.cell? ⟨b3, k * 9 + 1, none⟩ = some (.string pc) := hc3 1 (by decide)
            have d2 : wr.cell? ⟨b3, k * 9 + 2, none⟩ = some (.string px) := hc3 2 (by decide)
            have d3 : wr.cell? ⟨b3, k * 9 + 3, none⟩ = some (.bool pt) := hc3 3 (by decide)
            have d4 : wr.cell? ⟨b3, k * 9 + 4, none⟩ = some (.bool ph) := hc3 4 (by decide)
            have d5 : wr.cell? ⟨b3, k * 9 + 5, none⟩ = some (.int .i64 (pm : Nat)) := hc3 5 (by decide)
            have d6 : wr.cell? ⟨b3, k * 9 + 6, none⟩ = some (.int .i64 (po : Nat)) := hc3 6 (by decide)
            have d7 : wr.cell? ⟨b3, k * 9 + 7, none⟩ = some (.int .i64 (ps : Nat)) := hc3 7 (by decide)
            have d8 : wr.cell? ⟨b3, k * 9 + 8, none⟩ = some (.string pd) := hc3 8 (by decide)
            clear hc1 hc3
            go_quiet (fail)
            go_wp2
            go_meet
            case rel => exact ⟨by first | rfl | simp, (Touch.refl _ _).drewN _⟩
          · have hAI : ¬ ((k : Int) < (L1 : Int)) := by omega
            have hAd : decide ((k : Int) < (L1 : Int)) = false := decide_eq_false hAI
            have hAe : decide ((L1 : Int) ≤ (k : Int)) = true := decide_eq_true (by omega)
            have hAf : decide (L1 ≤ k) = true := decide_eq_true (by omega)
            have hAg : decide (k < L1) = false := decide_eq_false hA
            have hAh : L1 ≤ k := by omega
            obtain ⟨k2, hk2⟩ : ∃ k2, k2 = k - L1 := ⟨_, rfl⟩
            obtain ⟨P, hP1, hP3⟩ : ∃ P, l2[k2]? = some P ∧ (l1 ++ l2)[k]? = some P := by
              have h1 : k2 < l2.length := by have := HL.out; omega
              refine ⟨l2[k2], List.getElem?_eq_getElem h1, ?_⟩
              rw [List.getElem?_append_right (by have := HL.out; omega), ← List.getElem?_eq_getElem h1]
              congr 1
              have := HL.out
              omega
            obtain ⟨b1, rfl, hc1⟩ := PB.out.at_ k2 (by have := HL.out; omega)
            obtain ⟨b3, rfl, hc3⟩ := PC.out.at_ k (by rw [List.length_append]; have := HL.out; omega)
            replace hc1 := hc1 P hP1
            replace hc3 := hc3 P hP3
            clear hP1 hP3
            obtain ⟨pn, pc, px, pt, ph, pm, po, ps, pd⟩ := P
            have e0 : wr.cell? ⟨b1, k2 * 9, none⟩ = some (.string pn) := hc1 0 (by decide)
            have e1 : wr.cell? ⟨b1, k2 * 9 + 1, none⟩ = some (.string pc) := hc1 1 (by decide)
            have e2 : wr.cell? ⟨b1, k2 * 9 + 2, none⟩ = some (.string px) := hc1 2 (by decide)
            have e3 : wr.cell? ⟨b1, k2 * 9 + 3, none⟩ = some (.bool pt) := hc1 3 (by decide)
            have e4 : wr.cell? ⟨b1, k2 * 9 + 4, none⟩ = some (.bool ph) := hc1 4 (by decide)
            have e5 : wr.cell? ⟨b1, k2 * 9 + 5, none⟩ = some (.int .i64 (pm : Nat)) := hc1 5 (by decide)
            have e6 : wr.cell? ⟨b1, k2 * 9 + 6, none⟩ = some (.int .i64 (po : Nat)) := hc1 6 (by decide)
            have e7 : wr.cell? ⟨b1, k2 * 9 + 7, none⟩ = some (.int .i64 (ps : Nat)) := hc1 7 (by decide)
            have e8 : wr.cell? ⟨b1, k2 * 9 + 8, none⟩ = some (.string pd) := hc1 8 (by decide)
            have d0 : wr.cell? ⟨b3, k * 9, none⟩ = some (.string pn) := hc3 0 (by decide)
            have d1 : wr.cell? ⟨b3, k * 9 + 1, none⟩ = some (.string pc) := hc3 1 (by decide)
            have d2 : wr.cell? ⟨b3, k * 9 + 2, none⟩ = some (.string px) := hc3 2 (by decide)
            have d3 : wr.cell? ⟨b3, k * 9 + 3, none⟩ = some (.bool pt) := hc3 3 (by decide)
            have d4 : wr.cell? ⟨b3, k * 9 + 4, none⟩ = some (.bool ph) := hc3 4 (by decide)
            have d5 : wr.cell? ⟨b3, k * 9 + 5, none⟩ = some (.int .i64 (pm : Nat)) := hc3 5 (by decide)
            have d6 : wr.cell? ⟨b3, k * 9 + 6, none⟩ = some (.int .i64 (po : Nat)) := hc3 6 (by decide)
            have d7 : wr.cell? ⟨b3, k * 9 + 7, none⟩ = some (.int .i64 (ps : Nat)) := hc3 7 (by decide)
            have d8 : wr.cell? ⟨b3, k * 9 + 8, none⟩ = some (.string pd) := hc3 8 (by decide)
            clear hc1 hc3
            have hsub : IntKind.i64.wrap ((k : Int) - (L1 : Int)) = (k2 : Int) := by have := HL.out; rw [IntKind.wrap_i64]; omega
            have hk2l : (k2 : Int) < (L2 : Int) := by have := HL.out; omega
            clear hk2
            go_quiet (fail)
            go_wp2
            go_meet
            case rel => exact ⟨by first | rfl | simp, (Touch.refl _ _).drewN _⟩
        obtain ⟨rfl, tD⟩ := hcut
        have TD := hid (TC.out.trans tD (fun _ _ e => e))
        have hkb : k ≤ 2048 := by have := HL.out; omega
        clear tD
        go_wp2
        go_roundg gk
        case measure => omega
        case rel => exact ⟨k + 1, by go_num, by omega, TD.out⟩
      · have hltI : ¬ ((k : Int) < (L3 : Int)) := by omega
        go_wp2
        go_ret
        exact ⟨rfl, T3.out.trans TC.out (fun _ _ e => e)⟩
end Go.Proofs.YtohcngiiijokkaaDoor
