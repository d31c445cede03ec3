/- Texts of this proof, one behind the other: what each says stands ahead of it. -/
import Derived.Test.YtjpmjcadnnglnaaDoorM15
import Derived.Test.YtjpmjcadnnglnaaDoorM17
import Derived.Test.YtjpmjcadnnglnaaDoorM10
/- The document's Quote: it is the same text; condition: the text has at most 1048576 bytes. -/
namespace Go.Proofs.YtjpmjcadnnglnaaDoor
open Go.RowKit
open Go.Lib

theorem rdecX (s : ByteArray) (hs : s.size ≤ 1099511627000) (w : World) : Calls Tryd.prog 17 #[.string (xs s), .int .i64 1, .bool false] w fun e w' =>
    ∃ g c a2 n2 c2 bad, e = .returned (.tuple #[.agg #[.int .i64 1, .int .i64 (bad : Nat), .slice (some ⟨g, 0, none⟩) ((scs s).length + 1) c, .slice a2 n2 c2], .int .i64 0, .int .i64 0]) ∧
      Touch (fun _ => False) w w' ∧ g < w'.heap.size ∧ (∀ i x, (scs s)[i]? = some x → w'.cell? ⟨g, i + 1, none⟩ = some (.int .i64 (x : Nat))) := by
  have k := rdecode_any (xs s) 1 false w (by rw [xs_size]; omega) (by decide)
  rw [xs_bg] at k
  refine k.mono ?_
  intro e w' h
  rcases h with ⟨i, h1, _⟩ | ⟨_, h2⟩
  · rw [dc_loose] at h1
    cases h1
  · obtain ⟨v1, v2, he, o1, o2⟩ := h2.ex
    rw [show (((1 : Nat), (0 : Nat)).1) = 1 from rfl, show (((1 : Nat), (0 : Nat)).2) = 0 from rfl] at he o1 o2
    rw [dc_sc, List.nil_append, scF_x] at o1
    have hl : (120 :: scF (xs s) s.size 1).length = (scs s).length + 1 := by unfold scs; simp
    obtain ⟨a2, c2, rfl⟩ := own_shape o2.own
    rcases o1.own.2 with ⟨_, h0⟩ | ⟨g, cap, cur, hv, hg, hh, hcap, rest⟩
    · rw [hl] at h0
      omega
    · rw [hv] at he
      rw [hl] at he
      refine ⟨g, cap, a2, _, c2, _, he, o1.touch, lt_of_block hh, ?_⟩
      intro i x hx
      have h1 : (120 :: scF (xs s) s.size 1)[i + 1]? = some (x : Int) := by
        rw [List.getElem?_cons_succ]
        unfold scs at hx
        rw [List.getElem?_map] at hx
        cases hy : (scF (xs s) s.size 1)[i]? with
        | none => rw [hy] at hx; cases hx
        | some y =>
          rw [hy] at hx
          have := scF_in (xs s) s.size 1 y (List.mem_of_getElem? hy)
          cases hx
          rw [Int.toNat_of_nonneg this]
      have h2 := o1.own.cells (g := g) (by rw [hv]; rfl) (i + 1) (.int .i64 (x : Int)) (by unfold encI; rw [List.getElem?_map, h1]; rfl)
      rwa [add_g] at h2
theorem scF_is (s : ByteArray) : ∀ k i, scF s k i = scC s 1 k i
  | 0, _ => rfl
  | k + 1, i => by rw [scF, scC, scF_is s k]
theorem scs_sc (s : ByteArray) : ∀ x ∈ scs s, isSc x := by
  intro x hx
  unfold scs at hx
  obtain ⟨y, hy, rfl⟩ := List.mem_map.1 hx
  rw [scF_is] at hy
  exact (sc_is (scC_ok _ 1 (by omega) _ _ y hy)).1
theorem quot_lit (w : World) : OB (w.alloc (.cells #[.int .u8 34] 5)) (.slice (some ⟨w.heap.size, 0, none⟩) 1 1) [34] := by
  have := World.ownsRow_lit (base := 0) (e := 5) (size := 1) w #[.int .u8 34] 1 (Nat.zero_le _) (by unfold maxLen; omega) rfl
  exact this
theorem str_ub (x : Nat) (h : isSc x) : strOfNums (enc 1 (x : Int)) = ⟨(ub x).toArray⟩ := by
  rw [enc1, en8_ub x h]
  unfold strOfNums
  simp
  conv => rhs; rw [← List.map_id (ub x)]
  exact List.map_congr_left (fun b _ => by simp)
theorem index_hexs (x : Nat) (hx : x < 16) (w : World) : (Instr.index 9 (.string ⟨#[48, 49, 50, 51, 52, 53, 54, 55, 56, 57, 97, 98, 99, 100, 101, 102]⟩) (.int .i64 (x : Nat))).run Tryd.prog w = .ok (.int .u8 ((hexL.getD x 0).toNat : Int)) w := by
  rw [index_hex x hx w, hex_at x hx]
theorem qo_cases (x : Nat) : (x = 34 ∧ qo x = [92, 34]) ∨ (x = 92 ∧ qo x = [92, 92]) ∨ (x = 8 ∧ qo x = [92, 98]) ∨ (x = 9 ∧ qo x = [92, 116]) ∨ (x = 10 ∧ qo x = [92, 110]) ∨ (x = 12 ∧ qo x = [92, 102]) ∨ (x = 13 ∧ qo x = [92, 114]) ∨
    ((x ≠ 34 ∧ x ≠ 92 ∧ x ≠ 8 ∧ x ≠ 9 ∧ x ≠ 10 ∧ x ≠ 12 ∧ x ≠ 13) ∧ qo x = if x < 32 then [92, 117, 48, 48, hexL.getD (x / 16) 0, hexL.getD (x % 16) 0] else ub x) := by
  by_cases h1 : x = 34
  · subst h1; exact .inl ⟨rfl, rfl⟩
  by_cases h2 : x = 92
  · subst h2; exact .inr (.inl ⟨rfl, rfl⟩)
  by_cases h3 : x = 8
  · subst h3; exact .inr (.inr (.inl ⟨rfl, rfl⟩))
  by_cases h4 : x = 9
  · subst h4; exact .inr (.inr (.inr (.inl ⟨rfl, rfl⟩)))
  by_cases h5 : x = 10
  · subst h5; exact .inr (.inr (.inr (.inr (.inl ⟨rfl, rfl⟩))))
  by_cases h6 : x = 12
  · subst h6; exact .inr (.inr (.inr (.inr (.inr (.inl ⟨rfl, rfl⟩)))))
  by_cases h7 : x = 13
  · subst h7; exact .inr (.inr (.inr (.inr (.inr (.inr (.inl ⟨rfl, rfl⟩))))))
  refine .inr (.inr (.inr (.inr (.inr (.inr (.inr ⟨⟨h1, h2, h3, h4, h5, h6, h7⟩, ?_⟩))))))
  have he : escB x = none := by
    unfold escB
    rw [if_neg h1, if_neg h2, if_neg h3, if_neg h6, if_neg h5, if_neg h7, if_neg h4]
  unfold qo
  rw [he]
theorem take_qo (rs : List Nat) (k x : Nat) (h : rs[k]? = some x) : 34 :: (rs.take (k + 1)).flatMap qo = 34 :: (rs.take k).flatMap qo ++ qo x := by
  rw [List.take_add_one, h]
  simp
end Go.Proofs.YtjpmjcadnnglnaaDoor

/- Encode in UTF-8 of the numbers behind a first one; conditions: those told. -/
namespace Go.Proofs.YtjpmjcadnnglnaaDoor
open Go.RowKit
open Go.Lib
/-- Numbers that lie from the second cell of a block on. -/
def Ig1 (w : World) (a : Option Addr) (e : List Int) : Prop := ∃ b, a = some ⟨b, 1, none⟩ ∧ b < w.heap.size ∧ ∀ i (h : i < e.length), w.cell? ⟨b, 1 + i, none⟩ = some (.int .i64 e[i])
end Go.Proofs.YtjpmjcadnnglnaaDoor
