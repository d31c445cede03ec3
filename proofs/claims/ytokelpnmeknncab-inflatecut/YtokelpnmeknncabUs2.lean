/- Unpack from a place that there is, by a bound that there is: its four answers; conditions: what is unpacked fits into memory. -/
import Derived.Test.YtokelpnmeknncabEx
namespace Go.Proofs.Ytokelpnmeknncab
open Go.RowKit

/-- Text, end, error and place. -/
def Says (s : ByteArray) (f m : Nat) (S : ByteArray) (N C A : Nat) : Prop :=
  ∃ er t' out', Inf.Un s m 0 [] er t' out' ∧ t' ≤ 8 * s.size ∧ (er = 0 ∧ S = strOf out' ∧ N = f + (t' + 7) / 8 ∧ C = 0 ∧ A = 0 ∨ er ≠ 0 ∧ S = ByteArray.empty ∧ N = 0 ∧ C = er ∧ A = f + t' / 8)

theorem Unpack_says (data : ByteArray) (f m : Nat) (w : World) (hd : data.size ≤ 140737488351232) (hf : f ≤ data.size) (hm1 : m ≤ 9223372036854775807) (hc : m ≤ 70368744177664 ∨ 400000 * data.size ≤ 70368744177664) :
    Calls Try.prog 20 #[.string data, .int .i64 (f : Nat), .int .i64 (m : Nat)] w fun e w' => ∃ S N C A, e = .returned (.tuple #[.string S, .int .i64 (N : Nat), .agg #[.int .i64 (C : Nat), .int .i64 (A : Nat)]]) ∧ Says (data.extract f data.size) f m S N C A ∧ Touch (fun _ => False) w w' := by
  refine (Unpack_any data f m w hd (by omega) (by omega)).mono ?_
  rintro e w' ⟨hres, tc⟩
  rcases hres with ⟨h, _⟩ | ⟨f', m', h1, h2, _, er, t', out', hun, ht', hres⟩
  · omega
  · obtain rfl : f = f' := by omega
    obtain rfl : m = m' := by omega
    have hsz : (data.extract f data.size).size = data.size - f := by rw [ByteArray.size_extract]; omega
    rcases hres with ⟨h0, rfl⟩ | ⟨h0, rfl⟩
    · exact ⟨_, _, 0, 0, rfl, ⟨er, t', out', hun, by omega, .inl ⟨h0, rfl, rfl, rfl, rfl⟩⟩, tc⟩
    · exact ⟨_, 0, er, _, rfl, ⟨er, t', out', hun, by omega, .inr ⟨h0, rfl, rfl, rfl, rfl⟩⟩, tc⟩

theorem extract_all (s : ByteArray) : s.extract 0 s.size = s := by
  apply ByteArray.ext
  rw [ByteArray.data_extract]
  exact Array.extract_size

theorem pre_extract (s : ByteArray) (k : Nat) : Inf.Pre (s.extract 0 k) s := by
  refine ⟨by rw [ByteArray.size_extract]; omega, fun j hj => ?_⟩
  rw [ByteArray.size_extract] at hj
  rw [← byte_get (s.extract 0 k) j (by rw [ByteArray.size_extract]; omega), ← byte_get s j (by omega), ByteArray.getElem_extract]
  simp

/-- What is cut off is missed, or told as it was. -/
theorem cut_says {s : ByteArray} {k m : Nat} {S : ByteArray} {N C A : Nat} {S2 : ByteArray} {N2 C2 A2 : Nat} (h : Says s 0 m S N C A) (h2 : Says (s.extract 0 k) 0 m S2 N2 C2 A2) :
    (C2 = 0 ∧ A2 = 0 ∧ C = 0 ∧ A = 0 ∧ S = S2 ∧ N = N2) ∨ (C2 = 3 ∧ S2 = ByteArray.empty) ∨ (C2 ≠ 0 ∧ C2 ≠ 3 ∧ S2 = ByteArray.empty ∧ C = C2 ∧ A = A2) := by
  obtain ⟨er, t', out', hun, ht', hr⟩ := h
  obtain ⟨er2, t2, out2, hun2, ht2, hr2⟩ := h2
  by_cases h3 : er2 = 3
  · rcases hr2 with ⟨h0, _⟩ | ⟨_, hS, _, hC, _⟩
    · omega
    · exact .inr (.inl ⟨by omega, hS⟩)
  · have hx := (pre_extract s k).un hun2 (Inf.bd_zero _ _) h3
    obtain ⟨rfl, rfl, rfl⟩ := hun.det hx
    rcases hr2 with ⟨h0, hS, hN, hC, hA⟩ | ⟨h0, hS, hN, hC, hA⟩
    · rcases hr with ⟨_, gS, gN, gC, gA⟩ | ⟨g0, _⟩
      · exact .inl ⟨hC, hA, gC, gA, by rw [gS, hS], by rw [gN, hN]⟩
      · exact absurd h0 g0
    · rcases hr with ⟨g0, _⟩ | ⟨_, gS, gN, gC, gA⟩
      · exact absurd g0 h0
      · exact .inr (.inr ⟨by omega, by omega, hS, by omega, by omega⟩)
end Go.Proofs.Ytokelpnmeknncab
