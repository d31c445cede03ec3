/- A list copied, and two lists held against each other. -/
import Derived.Test.YtokelpnmeknncabCod
import Derived.WalkLawsBesides
import Derived.Lib.SliceRun
namespace Go.Proofs.Ytokelpnmeknncab
open Go.RowKit

theorem own_ints {w : World} {base g n cap : Nat} {f : Nat → Int} (h : w.ownsRow base 3 1 (.slice (some ⟨g, 0, none⟩) n cap) n ((List.range n).map fun i => .int .i64 (f i))) : Ints w (some ⟨g, 0, none⟩) n f := by
  refine .inr ⟨g, 0, rfl, (h.lt g rfl).2, fun i hi => ?_⟩
  have := h.cells (g := g) rfl i (.int .i64 (f i)) (by simp [hi])
  rw [Nat.zero_add]
  rwa [add_zero] at this

theorem own_ints' {w : World} {base n : Nat} {v : Value} {f : Nat → Int} (h : w.ownsRow base 3 1 v n ((List.range n).map fun i => .int .i64 (f i))) : ∃ a c, v = .slice a n c ∧ Ints w a n f := by
  rcases h.2 with ⟨rfl, rfl⟩ | ⟨g, cap, cur, rfl, _⟩
  · exact ⟨none, 0, rfl, .inl rfl⟩
  · exact ⟨_, cap, rfl, own_ints h⟩

set_option maxHeartbeats 1000000 in
theorem clone_any (g len cap : Nat) (f : Nat → Int) (w : World) (hl : len ≤ 140737488351232) (hb : len * 8 ≤ 140737488351232) (hi : Ints w (some ⟨g, 0, none⟩) len f) :
    Calls Try.prog 25 #[.slice (some ⟨g, 0, none⟩) len cap] w fun e w' => ∃ v, e = .returned v ∧ w'.ownsRow w.heap.size 3 1 v len ((List.range len).map fun i => .int .i64 (f i)) ∧ Touch (fun _ => False) w w' := by
  obtain ⟨i0, hin, hz0, hz1, hz2⟩ := info_parts info3
  have c1 : ∀ (j : Nat) (u : Value), ((List.range len).map fun i => Value.int .i64 (f i))[j]? = some u → (w.alloc (.cells #[] 3)).cell? ((⟨g, 0, none⟩ : Addr).add j) = some u := by
    intro j u hj
    have hj' : j < len := by
      rcases Nat.lt_or_ge j len with h | h
      · exact h
      · rw [List.getElem?_eq_none (by simpa using h)] at hj; simp at hj
    rcases hi with h | ⟨b, o, ha, hb, hc⟩
    · omega
    · simp at ha
      obtain ⟨rfl, rfl⟩ := ha
      rw [add_zero, World.cell?_of_block (w := w) (Below.heap_alloc _ _ _ hb)]
      have := hc j hj'
      rw [Nat.zero_add] at this
      rw [this]
      simpa [hj'] using hj
  have O1 : (w.alloc (.cells #[] 3)).ownsRow w.heap.size 3 1 (.slice (some ⟨w.heap.size, 0, none⟩) 0 0) 0 [] :=
    World.ownsRow_made w #[] 0 (Nat.le_refl _) (by unfold maxLen; omega) rfl
  have C1 := hid c1
  have OO := hid O1
  clear c1 O1 hi
  have q37 : ∀ (w : World) (a : Option Addr) (n c n' c' : Nat), (binOp .eql 22 (.slice a n c) (.slice none n' c')).run Try.prog w = .ok (.bool a.isNone) w := fun w a n c n' c' => Lib.run_eql_slice_nil w _ _ a n c n' c' Try.underlying22
  go_enter Try.func25, Try.ntmps25
  go_wp2_with (first
    | (at_builtin; refine wpList_append_own _ rfl _ _ 22 rfl w.heap.size 3 i0 (.int .i64 0) 1 8 Try.underlying22 hin hz0 hz1 hz2 rfl (by decide) _ _ _ rfl OO.out ⟨g, 0, none⟩ len cap ((List.range len).map fun i => Value.int .i64 (f i)) rfl (by simp) C1.out (by intro u hu; simp at hu; obtain ⟨_, _, rfl⟩ := hu; rfl) (by unfold maxLen; omega) (by omega) (by simp) ?_)
    | go_in)
  intro v' w1 hown hgrow _
  have T1 := hid ((((Touch.refl (fun _ => False) w).alloc (.cells #[] 3)).grown hgrow (fun k e h => by simp [Value.ownBlock] at e; omega)))
  have O2 := hid hown
  clear hown hgrow C1 OO
  go_wp2
  go_ret
  exact ⟨v', rfl, by simpa using O2.out, T1.out⟩
end Go.Proofs.Ytokelpnmeknncab
