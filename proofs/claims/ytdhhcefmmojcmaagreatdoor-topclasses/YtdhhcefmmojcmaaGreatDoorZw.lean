/- Lists of numbers and of bytes that come in; no condition. -/
import Derived.Test.YtdhhcefmmojcmaaGreatDoorZv
import Derived.Test.YtdhhcefmmojcmaaGreatDoorNKTb
namespace Go.Proofs.YtdhhcefmmojcmaaGreatDoor
open Go.ChangeShapes Go.WideShapes Go.ChangeAt Go.RowKit
open Go.Lib

theorem laidOut : laidOutB Tryz.prog = true := by kernel_rfl
theorem addr_of {w : World} {a : Addr} {v : Value} (h : w.cell? a = some v) : ∃ b o, a = ⟨b, o, none⟩ ∧ b < w.heap.size := by
  obtain ⟨b, o, s⟩ := a
  have hb : b < w.heap.size := by
    unfold World.cell? at h
    rcases Nat.lt_or_ge b w.heap.size with e | e
    · exact e
    · simp only [Array.getElem?_eq_none e] at h
      cases h
  cases s with
  | none => exact ⟨b, o, rfl, hb⟩
  | some x =>
    unfold World.cell? at h
    simp at h
    split at h
    · cases h
    · cases h
theorem nums_at {H : Type} {enc : TypeId × Value → H} {W : World} {a : Option Addr} {t e : TypeId} {k : IntKind} (ht : Tryz.prog.underlying t = some (.slice e)) (he : Tryz.prog.underlying e = some (.int k)) (hc : Tryz.prog.cellsOf e = 1) {n c : Nat} {d : DataW H} {p : List MemPlace} (h : DataW.Trod enc Tryz.prog W 0 (fun _ => true) true t (.slice a n c) d p) :
    ∃ l : List Int, n = l.length ∧ (∀ z ∈ l, (Lit.int k z).wf = true) ∧ (l = [] ∨ ∃ b o, a = some ⟨b, o, none⟩ ∧ b < W.heap.size ∧ ∀ i (h : i < l.length), W.cell? ⟨b, o + i, none⟩ = some (.int k l[i])) := by
  obtain ⟨fuel, hf⟩ := h
  rcases open_ints ht he hc hf with ⟨hcs, _⟩ | ⟨x, len, cap, zs, hcs, _, hl, hm, hz, hx, hcell, hwz⟩
  · simp [Value.cells] at hcs
    obtain ⟨rfl, rfl, rfl⟩ := hcs
    exact ⟨[], rfl, fun z hz => by simp at hz, .inl rfl⟩
  · simp [Value.cells] at hcs
    obtain ⟨rfl, rfl, rfl⟩ := hcs
    simp only [if_true] at hz
    have hlen : (zs.take n).length = n := by rw [List.length_take]; omega
    refine ⟨zs.take n, hlen.symm, fun z hz2 => hwz z (List.mem_of_mem_take hz2), ?_⟩
    by_cases h0 : n = 0
    · left
      subst h0
      rfl
    · right
      obtain ⟨b, o, hxa, hb⟩ := addr_of (hcell 0 (by omega))
      obtain ⟨xb, xo, xs⟩ := x
      obtain rfl : xs = none := congrArg Addr.spot hxa
      obtain rfl : xb = b := congrArg Addr.block hxa
      refine ⟨xb, xo, rfl, hb, fun i hi => ?_⟩
      have := hcell i (by omega)
      rw [List.getElem_take]
      rw [List.getD_eq_getElem?_getD, List.getElem?_eq_getElem (by omega)] at this
      have ea : (⟨xb, xo, none⟩ : Addr).add i = ⟨xb, xo + i, none⟩ := by
        unfold Addr.add
        split
        · rename_i h0
          subst h0
          rfl
        · rfl
      rw [ea] at this
      exact this
theorem ints_at {H : Type} {enc : TypeId × Value → H} {W : World} {a : Option Addr} {n c : Nat} {d : DataW H} {p : List MemPlace} (h : DataW.Trod enc Tryz.prog W 0 (fun _ => true) true 56 (.slice a n c) d p) : ∃ l : List Int, n = l.length ∧ Io W a l := by
  obtain ⟨l, h1, _, h2⟩ := nums_at Tryz.underlying56 Tryz.underlying3 (by kernel_rfl) h
  refine ⟨l, h1, ?_⟩
  rcases h2 with h2 | ⟨b, o, h3, _, h4⟩
  · exact .inl h2
  · exact .inr ⟨b, o, h3, h4⟩
theorem bytes_at {H : Type} {enc : TypeId × Value → H} {W : World} {a : Option Addr} {n c : Nat} {d : DataW H} {p : List MemPlace} (h : DataW.Trod enc Tryz.prog W 0 (fun _ => true) true 49 (.slice a n c) d p) : ∃ l : List UInt8, n = l.length ∧ Ib W a l := by
  obtain ⟨l, h1, hw, h2⟩ := nums_at Tryz.underlying49 Tryz.underlying5 (by kernel_rfl) h
  refine ⟨l.map fun z => UInt8.ofNat z.toNat, by simp [h1], ?_⟩
  rcases h2 with h2 | ⟨b, o, h3, hb, h4⟩
  · left
    rw [h2]
    rfl
  · right
    refine ⟨b, o, h3, hb, fun i hi => ?_⟩
    have hi2 : i < l.length := by simpa using hi
    have := hw l[i] (List.getElem_mem hi2)
    have h5 := Bool.and_eq_true_iff.1 this
    have r1 : (0 : Int) ≤ l[i] := of_decide_eq_true h5.1
    have r2 : l[i] ≤ (255 : Int) := of_decide_eq_true h5.2
    rw [h4 i hi2, List.getElem_map, UInt8.toNat_ofNat']
    congr 2
    omega
end Go.Proofs.YtdhhcefmmojcmaaGreatDoor
