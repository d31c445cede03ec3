/- JsonQuotes' walk; conditions: the two tables lie there, the text has at most 1048576 bytes. -/
import Derived.Test.YtjpmjcadnnglnaaDoorM18
namespace Go.Proofs.YtjpmjcadnnglnaaDoor
open Go.RowKit
open Go.Lib

theorem parse_quot (L : List Nat) (h : ∀ x ∈ L, isSc x) (hs : (quS L).size ≤ 1048576) (w : World) (ht : Tabs w) :
    Calls Tryd.prog 7 #[.string (quS L)] w fun e w' => e = .returned (.tuple #[.agg #[.int .i64 4, .string ⟨(UB L).toArray⟩, .slice none 0 0, .slice none 0 0], .agg #[.int .i64 0, .int .i64 0]]) ∧ Touch (fun _ => False) w w' := by
  obtain ⟨hq, hE⟩ := qu_back L h
  refine parse_ofT (quS L) 4 ⟨(UB L).toArray⟩ none none 0 0 0 0 0 0 w ht hs (fun w ht => qu_decode L h hs w ht) ?_
  intro b w' hp hb2 ht'
  have k := whole_okT b (quS L) (quS L).size 0 4 ⟨(UB L).toArray⟩ none none 0 0 0 0 w' hp hs (Nat.le_refl _) ht' (fun w1 hp1 ht1 => by
    have := value_quot b (quS L) 0 0 w1 hp1 hs (Nat.zero_le _) hb2 ht1 hq (fun o u e => by
      rw [hE] at e
      cases e
      refine ⟨Nat.le_refl _, ?_⟩
      rw [lk_by, if_neg (Nat.lt_irrefl _)]
      unfold noBlank
      decide)
    rw [hE] at this
    exact this)
  rw [if_pos rfl] at k
  exact k
theorem parse_quL (L : List Nat) (h : ∀ x ∈ L, isSc x) (w : World) (ht : Tabs w) :
    Calls Tryd.prog 7 #[.string (quS L)] w fun e w' => ∃ (vk : Nat) (vt : ByteArray) (fc : Nat), e = .returned (.tuple #[.agg #[.int .i64 (vk : Nat), .string vt, .slice none 0 0, .slice none 0 0], .agg #[.int .i64 (fc : Nat), .int .i64 0]]) ∧ Touch (fun _ => False) w w' ∧ ((quS L).size ≤ 1048576 → vk = 4 ∧ vt = ⟨(UB L).toArray⟩ ∧ fc = 0) := by
  by_cases hs : (quS L).size ≤ 1048576
  · exact (parse_quot L h hs w ht).mono (fun e w' ⟨h1, h2⟩ => ⟨4, _, 0, h1, h2, fun _ => ⟨rfl, rfl, rfl⟩⟩)
  · exact (parse_long (quS L) w ht (by omega)).mono (fun e w' ⟨h1, h2⟩ => ⟨0, ⟨#[]⟩, 2, h1, h2, fun h => absurd h hs⟩)
theorem enc_quot (L : List Nat) (h : ∀ x ∈ L, isSc x) : encR 1 false (ints L) = .tuple #[.string ⟨(UB L).toArray⟩, .int .i64 0] := by
  unfold encR
  rw [if_pos (ints_ok L h), ints_enc L h]
  have : strOfNums ((if (false : Bool) = true then nums (mk 1) else []) ++ (UB L).map fun b => (b.toNat : Int)) = ⟨(UB L).toArray⟩ := by
    rw [if_neg (by decide), List.nil_append]
    unfold strOfNums
    simp
    conv => rhs; rw [← List.map_id (UB L)]
    exact List.map_congr_left (fun b _ => by simp)
  rw [this]
end Go.Proofs.YtjpmjcadnnglnaaDoor
