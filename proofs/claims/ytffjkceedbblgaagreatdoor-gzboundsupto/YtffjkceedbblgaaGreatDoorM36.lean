/- Texts of this proof, one behind the other: what each says stands ahead of it. -/
import Derived.Test.YtffjkceedbblgaaGreatDoorM35
/- Parts in memory, to be read; what GzJoined says, plain; conditions: those told. -/
namespace Go.Proofs.YtffjkceedbblgaaGreatDoor
open Go.RowKit

theorem flatP_at : ∀ (l : List Gz.Part) (i : Nat) (h : i < l.length) (j : Nat), j < 9 → (flatP l)[i * 9 + j]? = (partC l[i])[j]?
  | [], i, h, _, _ => by simp at h
  | x :: l, i, h, j, hj => by
    have e : flatP (x :: l) = (partC x).toList ++ flatP l := rfl
    have hlen : (partC x).toList.length = 9 := rfl
    rw [e]
    cases i with
    | zero =>
      rw [List.getElem?_append_left (by rw [hlen]; omega), Nat.zero_mul, Nat.zero_add]
      simp
    | succ i =>
      have ih := flatP_at l i (by simpa using h) j hj
      rw [List.getElem?_append_right (by rw [hlen]; omega), hlen, show (i + 1) * 9 + j - 9 = i * 9 + j by omega, ih]
      simp
def Pls (w : World) (a : Option Addr) (l : List Gz.Part) : Prop := l = [] ∨ ∃ b, a = some ⟨b, 0, none⟩ ∧ b < w.heap.size ∧ ∀ i (h : i < l.length) (j : Nat), j < 9 → w.cell? ⟨b, i * 9 + j, none⟩ = (partC l[i])[j]?
theorem own_pls {w : World} {e : TypeId} {v : Value} {l : List Gz.Part} (h : w.ownsRow 0 e 9 v l.length (flatP l)) : ∃ a c, v = .slice a l.length c ∧ Pls w a l := by
  rcases h.2 with ⟨h1, h2⟩ | ⟨g, cap, cur, hv, hg, hh, hle, _⟩
  · exact ⟨none, 0, by rw [h1, h2], .inl (List.eq_nil_of_length_eq_zero h2)⟩
  · refine ⟨some ⟨g, 0, none⟩, cap, hv, .inr ⟨g, rfl, lt_of_block hh, fun i hi j hj => ?_⟩⟩
    have h0 := flatP_at l i hi j hj
    have hsz : j < (partC l[i]).size := by show j < 9; exact hj
    rw [Array.getElem?_eq_getElem hsz] at h0 ⊢
    have c := h.cells (g := g) (by rw [hv]; rfl) _ _ h0
    rw [add_zero] at c
    exact c
theorem Pls.keep {w w' : World} {a : Option Addr} {l : List Gz.Part} (h : Pls w a l) (t : Touch (fun _ => False) w w') : Pls w' a l := by
  rcases h with h | ⟨b, ha, hb, hc⟩
  · exact .inl h
  · exact .inr ⟨b, ha, Nat.lt_of_lt_of_le hb t.size, fun i hi j hj => (t.cell (p := ⟨b, i * 9 + j, none⟩) hb id).trans (hc i hi j hj)⟩
theorem Pls.drewN {w : World} {a : Option Addr} {l : List Gz.Part} (h : Pls w a l) (n : Nat) : Pls (w.drewN n) a l := h.keep ((Touch.refl _ w).drewN n)
/-- What Read answers, whether it erred or not. -/
theorem rpost {e0 : TypeId} {w w' : World} {r : Except Gz.Bad (List Gz.Part)} {e : Ending} (h : RPost e0 w r e w') : ∃ a c l, ∃ y : Gz.Bad, e = .returned (.tuple #[.slice a l.length c, .agg #[.int .i64 (y.1 : Nat), .int .i64 (y.2 : Nat)]]) ∧ Pls w' a l ∧ Touch (fun _ => False) w w' ∧ (r = .error y ∧ l = [] ∨ r = .ok l ∧ y = (0, 0)) := by
  cases r with
  | error y =>
    obtain ⟨rfl, t⟩ := h
    exact ⟨none, 0, [], y, rfl, .inl rfl, t, .inl ⟨rfl, rfl⟩⟩
  | ok l =>
    obtain ⟨v, rfl, o, t⟩ := h
    obtain ⟨a, c, rfl, p⟩ := own_pls o.own
    exact ⟨a, c, l, (0, 0), rfl, p, t, .inr ⟨rfl, rfl⟩⟩
namespace Gz
theorem extra_bad {s : ByteArray} {t : Nat} {x : Bad} (h : extraAt s t = .error x) : x.1 ≠ 0 := extra_code h
theorem texts_code {s : ByteArray} {t f : Nat} {x : Bad} (h : textsAt s t f = .error x) : x.1 ≠ 0 := by
  unfold textsAt at h
  split at h
  · rename_i h1
    cases h
    unfold perhaps at h1
    split at h1
    · exact extra_code h1
    · cases h1
  · split at h
    · rename_i h1
      cases h
      unfold perhaps at h1
      split at h1
      · exact name_code h1
      · cases h1
    · split at h
      · rename_i h1
        cases h
        unfold perhaps at h1
        split at h1
        · exact name_code h1
        · cases h1
      · cases h
theorem part_code {s : ByteArray} {p most : Nat} {x : Bad} (h : partR s p most (.error x)) : x.1 ≠ 0 := by
  unfold partR at h
  split at h
  · rename_i h1
    cases h
    exact head_code h1
  · split at h
    · rename_i h1
      cases h
      exact texts_code h1
    · split at h
      · rename_i h1
        cases h
        exact sum_code h1
      · obtain ⟨q, hq, hr⟩ := h
        split at hr
        · cases hr
          exact pack_code hq
        · cases hr
theorem rd_code {s : ByteArray} {p most n : Nat} {r : Except Bad (List Part)} (h : Rd s p most n r) : ∀ {x}, r = .error x → x.1 ≠ 0 := by
  induction h with
  | fin => intro x h; cases h
  | many => intro x h; cases h; simp
  | bad p most n h hn b k => intro x h; cases h; exact part_code k
  | more => intro x h; cases h
  | later p most n h hn x e k b r ih => intro y h; cases h; exact ih rfl
theorem rd_some {s : ByteArray} {p most : Nat} {l : List Part} (h : Rd s p most 0 (.ok l)) : l.length ≠ 0 := by
  cases h with
  | fin _ _ _ h0 => exact absurd rfl h0
  | more => simp
theorem rd_empty {s : ByteArray} (hs : s.size = 0) {most : Nat} {r : Except Bad (List Part)} (h : Rd s 0 most 0 r) : r = .error (12, 0) := by
  have hk : partR s 0 most (.error (12, 0)) := by
    have : headAt s 0 = .error (12, 0) := by unfold headAt; rw [if_pos (.inl (by omega))]
    unfold partR
    rw [this]
  exact h.same (.bad 0 most 0 (.inl rfl) (by decide) _ hk)
/-- Two files one behind the other. -/
theorem joined {a b : ByteArray} {r1 r2 r3 : Except Bad (List Part)} (h1 : Rd a 0 1048576 0 r1) (h2 : Rd b 0 1048576 0 r2) (h3 : Rd (a ++ b) 0 2097152 0 r3) {l1 l2 l3 : List Part} {y1 y2 y3 : Bad}
    (k1 : r1 = .error y1 ∧ l1 = [] ∨ r1 = .ok l1 ∧ y1 = (0, 0)) (k2 : r2 = .error y2 ∧ l2 = [] ∨ r2 = .ok l2 ∧ y2 = (0, 0)) (k3 : r3 = .error y3 ∧ l3 = [] ∨ r3 = .ok l3 ∧ y3 = (0, 0)) :
    (y1.1 ≠ 0 ∧ l1.length = 0) ∨
    (y1 = (0, 0) ∧ (1024 ≤ l1.length ∨ y2.1 = 2)) ∨
    (y1 = (0, 0) ∧ l1.length < 1024 ∧ y2.1 ≠ 2 ∧ y2.1 ≠ 0 ∧ b.size = 0 ∧ l3.length = l1.length) ∨
    (y1 = (0, 0) ∧ l1.length < 1024 ∧ y2.1 ≠ 2 ∧ y2.1 ≠ 0 ∧ b.size ≠ 0 ∧ y3.1 ≠ 0 ∧ l3.length = 0) ∨
    (y1 = (0, 0) ∧ y2 = (0, 0) ∧ l1.length < 1024 ∧ 1024 < l1.length + l2.length ∧ y3.1 = 16) ∨
    (y1 = (0, 0) ∧ y2 = (0, 0) ∧ y3 = (0, 0) ∧ l1.length < 1024 ∧ l1.length + l2.length ≤ 1024 ∧ l3 = l1 ++ l2) := by
  rcases k1 with ⟨rfl, rfl⟩ | ⟨rfl, rfl⟩
  · exact .inl ⟨rd_code h1 rfl, rfl⟩
  by_cases hm : 1024 ≤ l1.length
  · exact .inr (.inl ⟨rfl, .inl hm⟩)
  have hl0 := rd_some h1
  have hw := Win.left a b
  obtain ⟨f1, f2⟩ := rd_first hw h1 rfl (most' := 2097152) (by decide) (Nat.zero_le _) (.inl (by omega))
  rcases k2 with ⟨rfl, rfl⟩ | ⟨rfl, rfl⟩
  · by_cases hc : y2.1 = 2
    · exact .inr (.inl ⟨rfl, .inr hc⟩)
    have hc0 := rd_code h2 rfl
    by_cases hb : b.size = 0
    · refine .inr (.inr (.inl ⟨rfl, by omega, hc, hc0, hb, ?_⟩))
      have g := f2 (r2 := .ok []) (fun hne => .fin _ _ _ hne (by rw [ByteArray.size_append]; omega))
      have e := h3.same g
      rcases k3 with ⟨rfl, rfl⟩ | ⟨rfl, rfl⟩
      · cases e
      · simp only [addTo, List.append_nil] at e
        cases e
        rfl
    · refine .inr (.inr (.inr (.inl ⟨rfl, by omega, hc, hc0, hb, ?_⟩)))
      have hq := rd_second (Win.right a b) (by rw [ByteArray.size_append]) h2 (most' := 2097152 - sizes l1) (n' := l1.length + 0) (by omega) (Nat.zero_le _) (Nat.zero_le _) (by omega) (by omega) (fun _ => by omega)
      obtain ⟨c2, a2, hc2, hr⟩ := hq.2 y2.1 y2.2 rfl hc hc0
      have e := h3.same (f2 (fun _ => hr))
      rcases k3 with ⟨rfl, rfl⟩ | ⟨rfl, rfl⟩
      · cases e
        exact ⟨hc2, rfl⟩
      · cases e
  · have hb : b.size ≠ 0 := fun h => by
      have := rd_empty h h2
      cases this
    have hq := rd_second (Win.right a b) (by rw [ByteArray.size_append]) h2 (most' := 2097152 - sizes l1) (n' := l1.length + 0) (by omega) (Nat.zero_le _) (Nat.zero_le _) (by omega) (by omega) (fun _ => by omega)
    obtain ⟨g1, g2⟩ := hq.1 l2 rfl
    by_cases hmany : 1024 < l1.length + l2.length
    · obtain ⟨a2, hr⟩ := g2 (by omega)
      have e := h3.same (f2 (fun _ => hr))
      refine .inr (.inr (.inr (.inr (.inl ⟨rfl, rfl, by omega, hmany, ?_⟩))))
      rcases k3 with ⟨rfl, rfl⟩ | ⟨rfl, rfl⟩
      · cases e
        rfl
      · cases e
    · have hr := g1 (by omega)
      have e := h3.same (f2 (fun _ => hr))
      refine .inr (.inr (.inr (.inr (.inr ⟨rfl, rfl, ?_⟩))))
      rcases k3 with ⟨rfl, rfl⟩ | ⟨rfl, rfl⟩
      · cases e
      · cases e
        exact ⟨rfl, by omega, by omega, rfl⟩
end Gz
set_option maxRecDepth 100000 in
theorem speaks_yes (w : World) (hq : Quart w) : Calls Tryz.prog 6 #[] w fun e w' => e = .returned (.bool true) ∧ w = w' := by
  have K := hid (sum_any ⟨#[49, 50, 51, 52, 53, 54, 55, 56, 57]⟩ (by decide) w hq)
  rw [show Gz.sum ⟨#[49, 50, 51, 52, 53, 54, 55, 56, 57]⟩ = 3421780262 by decide +kernel] at K
  go_enter Tryz.func6, Tryz.ntmps6
  go_wp2_with fail
  refine K.out.mono ?_
  rintro e w1 ⟨rfl, rfl⟩
  clear K
  go_wp2
  go_ret
  exact ⟨rfl, rfl⟩
end Go.Proofs.YtffjkceedbblgaaGreatDoor
