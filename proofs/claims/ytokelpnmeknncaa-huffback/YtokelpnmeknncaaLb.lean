/- What a law is told of a list that tells what is used; Even's lengths of it. -/
import Derived.Deep.Grids
import Derived.Test.YtokelpnmeknncaaLw
import Derived.Test.YtokelpnmeknncaaEm
namespace Go.Proofs.Ytokelpnmeknncaa
open Go.ChangeShapes Go.WideShapes Go.ChangeAt Go.RowKit

theorem info4 : (Try.prog.info? 4).map (fun i => (i.zero, i.size, i.bytes)) = some (some (.bool false), 1, 1) := by kernel_rfl

structure BRow (w : World) (a : Option Addr) (len cap : Nat) (u : Nat → Bool) : Prop where
  fit : len ≤ 140737488351232
  bools : Bools w a len u
  vals : (a = none ∧ cap = 0 ∧ len = 0) ∨ ∃ ad, a = some ad ∧ ∀ j x, ((List.range len).map fun i => Value.bool (u i))[j]? = some x → w.cell? (ad.add j) = some x

theorem BRow.new {w w' : World} {a : Option Addr} {len cap : Nat} {u : Nat → Bool} (h : BRow w a len cap u) (t : Touch (fun _ => False) w w') : BRow w' a len cap u := by
  refine ⟨h.fit, h.bools.new t, ?_⟩
  rcases h.vals with h | ⟨x, h1, h2⟩
  · exact .inl h
  · refine .inr ⟨x, h1, fun j u hj => ?_⟩
    have hc := h2 j u hj
    rw [t.cell (World.block_lt_of_cell? w _ hc) id]
    exact hc

theorem brow_of {w : World} {x : Addr} {len cap : Nat} {u : Nat → Bool} (hl : len ≤ cap) (hm : len ≤ 140737488351232) (hc : ∀ i, i < cap → w.cell? (x.add i) = some (.bool (u i))) : BRow w (some x) len cap u := by
  refine ⟨hm, ?_, .inr ⟨x, rfl, fun j v hj => ?_⟩⟩
  · by_cases h0 : len = 0
    · exact .inl h0
    · obtain ⟨b, off, spot⟩ := x
      have hspot : spot = none := by simpa [Addr.add] using World.cell?_spot (hc 0 (by omega))
      subst hspot
      have hb := World.block_lt_of_cell? w _ (hc 0 (by omega))
      refine .inr ⟨b, off, rfl, by simpa [Addr.add] using hb, fun i hi => ?_⟩
      have := hc i (by omega)
      rwa [show (⟨b, off, none⟩ : Addr).add i = ⟨b, off + i, none⟩ by unfold Addr.add; split <;> simp_all] at this
  · have hj' : j < len := by
      rcases Nat.lt_or_ge j len with h | h
      · exact h
      · rw [List.getElem?_eq_none (by simpa using h)] at hj; simp at hj
    rw [hc j (by omega)]
    simpa [hj'] using hj

theorem brow_none (w : World) (u : Nat → Bool) : BRow w none 0 0 u := ⟨by omega, .inl rfl, .inl ⟨rfl, rfl, rfl⟩⟩

theorem bone_cells (u : Nat → Bool) (len : Nat) : ∀ x ∈ (List.range len).map (fun i => Value.bool (u i)), x.oneCell' = true := by
  intro x hx
  simp at hx
  obtain ⟨_, _, rfl⟩ := hx
  rfl

theorem own_bools {w : World} {base g n cap : Nat} {u : Nat → Bool} (h : w.ownsRow base 4 1 (.slice (some ⟨g, 0, none⟩) n cap) n ((List.range n).map fun i => .bool (u i))) : Bools w (some ⟨g, 0, none⟩) n u := by
  refine .inr ⟨g, 0, rfl, (h.lt g rfl).2, fun i hi => ?_⟩
  have := h.cells (g := g) rfl i (.bool (u i)) (by simp [hi])
  rw [Nat.zero_add]
  rwa [add_zero] at this

/-- Even's lengths. -/
def evf (u : Nat → Bool) (len i : Nat) : Nat := if cntb u len = 0 then 0 else evenLen u (cntb u len) (Nat.log2 (cntb u len)) i

theorem log_fits (m : Nat) (h : 1 ≤ m) : 2 ^ Nat.log2 m ≤ m ∧ m < 2 ^ (Nat.log2 m + 1) := ⟨Nat.log2_self_le (by omega), Nat.lt_log2_self⟩

theorem log_le (m : Nat) (h : 1 ≤ m) (hm : m ≤ 1024) : Nat.log2 m ≤ 10 := by
  have h1 := (log_fits m h).1
  rcases Nat.lt_or_ge 10 (Nat.log2 m) with g | g
  · have : 2 ^ 11 ≤ 2 ^ Nat.log2 m := Nat.pow_le_pow_right (by decide) g
    omega
  · exact g

theorem evf_le (u : Nat → Bool) (len : Nat) (hl : len ≤ 1024) (i : Nat) : evf u len i ≤ 15 := by
  unfold evf
  split
  · omega
  · have := log_le (cntb u len) (by omega) (by have := cntb_le u len; omega)
    exact even_le u _ _ i (by omega)

theorem evf_err (u : Nat → Bool) (len : Nat) (hl : len ≤ 1024) : errOf (evf u len) len = 0 := by
  by_cases h : cntb u len = 0
  · have e : evf u len = fun _ => 0 := by funext i; unfold evf; rw [if_pos h]
    rw [e]
    exact none_err len
  · have e : evf u len = evenLen u (cntb u len) (Nat.log2 (cntb u len)) := by funext i; unfold evf; rw [if_neg h]
    rw [e]
    obtain ⟨h1, h2⟩ := log_fits (cntb u len) (by omega)
    exact even_err u _ _ len rfl (by omega) (by have := cntb_le u len; omega) h1 h2

theorem evf_used (u : Nat → Bool) (len i : Nat) (hi : i < len) : evf u len i ≠ 0 ↔ u i = true := by
  unfold evf
  by_cases h : cntb u len = 0
  · rw [if_pos h]
    constructor
    · intro h; exact absurd rfl h
    · intro hu
      have := cntb_mono u (i + 1) (len - (i + 1))
      rw [show i + 1 + (len - (i + 1)) = len by omega, cntb, hu] at this
      simp at this
      omega
  · rw [if_neg h]
    unfold evenLen
    cases hu : u i
    · simp
    · simp
      split <;> omega

theorem even_all (a : Option Addr) (len cap : Nat) (u : Nat → Bool) (w : World) (hl : len ≤ 1024) (hi : Bools w a len u) :
    Calls Try.prog 19 #[.slice a len cap] w fun e w' => ∃ v, e = .returned v ∧ w'.ownsRow w.heap.size 3 1 v len ((List.range len).map fun i => .int .i64 (evf u len i : Nat)) ∧ Touch (fun _ => False) w w' := by
  have hle := cntb_le u len
  by_cases h : cntb u len = 0
  · refine (even_none a len cap _ u w (by omega) hi rfl (.inl h)).mono ?_
    rintro e w' ⟨v, h1, h2, h3⟩
    refine ⟨v, h1, ?_, h3⟩
    have e : ((List.range len).map fun i => Value.int .i64 (evf u len i : Nat)) = List.replicate len (.int .i64 0) := by
      rw [List.eq_replicate_iff]
      refine ⟨by simp, fun x hx => ?_⟩
      simp at hx
      obtain ⟨i, _, rfl⟩ := hx
      simp [evf, h]
    rw [e]
    exact h2
  · obtain ⟨h1, h2⟩ := log_fits (cntb u len) (by omega)
    refine (even_any a len cap _ _ u w (by omega) hi rfl (by omega) (by omega) h1 h2).mono ?_
    rintro e w' ⟨v, h1, h2, h3⟩
    refine ⟨v, h1, ?_, h3⟩
    have e : evf u len = evenLen u (cntb u len) (Nat.log2 (cntb u len)) := by funext i; unfold evf; rw [if_neg h]
    rw [natsV, List.map_map] at h2
    rw [e]
    exact h2

end Go.Proofs.Ytokelpnmeknncaa
