/- speaks of layer 2: four symbols. -/
import Derived.Test.YtokelpnmeknncabNewK
import Derived.Test.YtokelpnmeknncabIn
namespace Go.Proofs.Ytokelpnmeknncab
open Go.RowKit

theorem ret_bool {a b : Bool} (h : a = b) : Ending.returned (.bool a) = .returned (.bool b) := by rw [h]

def sf (i : Nat) : Nat := [2, 1, 3, 3].getD i 0

theorem sf_err : errOf sf 4 = 0 := by decide
theorem sf_le (i : Nat) : sf i ≤ 15 := by
  unfold sf
  rcases i with _ | _ | _ | _ | i <;> simp
theorem sf_ints (w : World) : Ints (w.alloc (.cells #[.int .i64 2, .int .i64 1, .int .i64 3, .int .i64 3] 3)) (some ⟨w.heap.size, 0, none⟩) 4 (fun i => (sf i : Nat)) := by
  refine .inr ⟨w.heap.size, 0, rfl, by simp, fun i hi => ?_⟩
  have hb : (w.alloc (.cells #[.int .i64 2, .int .i64 1, .int .i64 3, .int .i64 3] 3)).heap[w.heap.size]? = some (.cells #[.int .i64 2, .int .i64 1, .int .i64 3, .int .i64 3] 3) := by
    show (w.heap.push _)[_]? = _
    simp
  rcases i with _ | _ | _ | _ | i
  · simp only [World.cell?, hb]; rfl
  · simp only [World.cell?, hb]; rfl
  · simp only [World.cell?, hb]; rfl
  · simp only [World.cell?, hb]; rfl
  · omega

def s3 : ByteArray := ⟨#[3]⟩

theorem sf_next {r : Nat} {w w' : World} {e : Ending} (h : Answer (Laid sf 4) sf (pathOf sf 4) (Bt.rval s3 0 (min 15 (8 * s3.size - 0))) s3 0 r w e w') :
    e = .returned (.tuple #[.int .i64 2, .int .i64 0]) ∧ RStep w w' r s3 3 := by
  have hp : Bt.rval s3 0 (min 15 (8 * s3.size - 0)) = 3 := by decide +kernel
  rw [hp] at h
  have one : ∀ i, Laid sf 4 i → 3 % 2 ^ sf i = pathOf sf 4 i → i = 2 := by
    rintro i ⟨hi, _⟩ e
    have : i = 0 ∨ i = 1 ∨ i = 2 ∨ i = 3 := by omega
    rcases this with rfl | rfl | rfl | rfl
    · exact absurd e (by decide +kernel)
    · exact absurd e (by decide +kernel)
    · rfl
    · exact absurd e (by decide +kernel)
  rcases h with ⟨i, h1, h2, h3, h4, h5⟩ | ⟨i, h1, h2, h3, h4, h5⟩ | ⟨h1, h2, h3⟩
  · obtain rfl := one i h1 h2
    exact ⟨h4, h5⟩
  · obtain rfl := one i h1 h2
    exact absurd h3 (by decide +kernel)
  · exact absurd (h1 2 ⟨by decide, by decide⟩) (by decide +kernel)

end Go.Proofs.Ytokelpnmeknncab
