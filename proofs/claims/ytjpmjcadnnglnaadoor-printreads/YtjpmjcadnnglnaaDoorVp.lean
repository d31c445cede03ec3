/- equal, of two trees that are the same; no condition. -/
import Derived.Test.YtjpmjcadnnglnaaDoorQVa
import Derived.Deep.RegionLaw
namespace Go.Proofs.YtjpmjcadnnglnaaDoor
open Go.RowKit
open Go.Lib

theorem own_max {w : World} {e : TypeId} {sz n : Nat} {v : Value} {xs : List Value} (h : w.ownsRow 0 e sz v n xs) : n ≤ 9223372036854775807 := by
  rcases h.2 with ⟨_, h0⟩ | ⟨g, cap, cur, hv, hg, hh, h1, h2, _⟩
  · omega
  · unfold maxLen at h2
    omega
theorem SL.at2 {w : World} {a : Option Addr} {n c : Nat} {ks : List ByteArray} (h : SL w (.slice a n c) ks) (i : Nat) (hi : i < ks.length) : ∃ g, a = some ⟨g, 0, none⟩ ∧ w.cell? ⟨g, i, none⟩ = some (.string (ks.getD i ⟨#[]⟩)) := by
  rcases h.2 with ⟨_, h0⟩ | ⟨g, cap, cur, hv, hg, hh, rest⟩
  · omega
  · cases hv
    refine ⟨g, rfl, ?_⟩
    have h' := h
    unfold SL at h'
    rw [h'.cellAt i (by omega), List.getElem?_map, List.getElem?_eq_getElem hi, List.getD_eq_getElem?_getD, List.getElem?_eq_getElem hi]
    rfl
theorem SL.len2 {w : World} {a : Option Addr} {n c : Nat} {ks : List ByteArray} (h : SL w (.slice a n c) ks) : n = ks.length := by
  obtain ⟨_, _, hh⟩ := own_shape h
  cases hh
  rfl
theorem CL.len {w : World} {a : Option Addr} {n c : Nat} {cs : List Cel} (h : CL w (.slice a n c) cs) : n = cs.length := by
  obtain ⟨_, _, hh⟩ := own_shape h
  cases hh
  rfl
theorem cel_get : ∀ (cs : List Cel) (i j : Nat) (c : Cel), cs[i]? = some c → j < 4 → (cs.flatMap Cel.cells)[i * 4 + j]? = c.cells[j]?
  | [], i, j, c, h, _ => by cases h
  | d :: cs, 0, j, c, h, hj => by
    cases h
    rw [List.flatMap_cons, List.getElem?_append_left (by show _ < 4; omega), Nat.zero_mul, Nat.zero_add]
  | d :: cs, i + 1, j, c, h, hj => by
    rw [List.flatMap_cons, List.getElem?_append_right (by show 4 ≤ _; omega)]
    rw [show (i + 1) * 4 + j - d.cells.length = i * 4 + j from by show (i + 1) * 4 + j - 4 = _; omega]
    exact cel_get cs i j c h hj
theorem CL.at {w : World} {a : Option Addr} {n cp : Nat} {cs : List Cel} (h : CL w (.slice a n cp) cs) (i : Nat) (c : Cel) (hi : cs[i]? = some c) : ∃ g, a = some ⟨g, 0, none⟩ ∧ w.cell? ⟨g, i * 4, none⟩ = some (.int .i64 c.k) ∧ w.cell? ⟨g, i * 4 + 1, none⟩ = some (.string c.t) ∧ w.cell? ⟨g, i * 4 + 2, none⟩ = some c.v2 ∧ w.cell? ⟨g, i * 4 + 3, none⟩ = some c.v3 := by
  have hlt : i < cs.length := (List.getElem?_eq_some_iff.1 hi).1
  rcases h.2 with ⟨_, h0⟩ | ⟨g, cap, cur, hv, hg, hh, rest⟩
  · omega
  · cases hv
    have h' := h
    unfold CL at h'
    refine ⟨g, rfl, ?_, ?_, ?_, ?_⟩
    · have := cel_get cs i 0 c hi (by decide)
      rw [Nat.add_zero] at this
      rw [h'.cellAt (i * 4) (by omega), this]
      rfl
    · rw [h'.cellAt (i * 4 + 1) (by omega), cel_get cs i 1 c hi (by decide)]
      rfl
    · rw [h'.cellAt (i * 4 + 2) (by omega), cel_get cs i 2 c hi (by decide)]
      rfl
    · rw [h'.cellAt (i * 4 + 3) (by omega), cel_get cs i 3 c hi (by decide)]
      rfl
def Cel.agg (c : Cel) : Value := .agg #[.int .i64 c.k, .string c.t, c.v2, c.v3]
theorem TV.shape {w : World} {B : Nat → Prop} {c : Cel} {x : JV} (h : TV w B c x) : ∃ k t a2 n2 c2 a3 n3 c3, c = ⟨k, t, .slice a2 n2 c2, .slice a3 n3 c3⟩ := by
  cases h with
  | mk k t v2 v3 ks kids cs h2 b2 h3 b3 hl hk =>
    obtain ⟨a2, c2, hv2⟩ := own_shape h2
    obtain ⟨a3, c3, hv3⟩ := own_shape h3
    subst hv2
    subst hv3
    exact ⟨_, _, _, _, _, _, _, _, rfl⟩
end Go.Proofs.YtjpmjcadnnglnaaDoor
