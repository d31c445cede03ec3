/- speaks of layer 2: four symbols. -/
import Derived.Test.YtokelpnmeknncaaNewK
import Derived.Test.YtokelpnmeknncaaIn
namespace Go.Proofs.Ytokelpnmeknncaa
open Go.RowKit

theorem ret_bool {a b : Bool} (h : a = b) : Ending.returned (.bool a) = .returned (.bool b) := by rw [h]

def sf (i : Nat) : Nat := [2, 1, 3, 3].getD i 0

theorem sf_err : errOf sf 4 = 0 := by decide
theorem sf_le (i : Nat) : sf i ≤ 15 := by
  unfold sf
  rcases i with _ | _ | _ | _ | i <;> simp
theorem sf_ints (w : World) : Ints (w.alloc (.cells #[.int .i64 2, .int .i64 1, .int .i64 3, .int .i64 3] 3)) (some ⟨w.heap.size, 0, none⟩) 4 (fun i => (sf i : Nat)) := by
  refine .inr ⟨w.heap.size, 0, rfl, by simp, fun i hi => ?_⟩
  have hb : (w.alloc (.cells #[.int .i64 2, .int .i64 1, .int .i64 3, .int .i64 3] 3)).heap[w.heap.size]? = some (.cells #[.int .i64 2, .int .i64 1, .int .i64 3, .int .i64 3] 3) := by
    show (w.heap.push _)[_]? = _
    simp
  rcases i with _ | _ | _ | _ | i
  · simp only [World.cell?, hb]; rfl
  · simp only [World.cell?, hb]; rfl
  · simp only [World.cell?, hb]; rfl
  · simp only [World.cell?, hb]; rfl
  · omega

def s3 : ByteArray := ⟨#[3]⟩

theorem sf_next {r : Nat} {w w' : World} {e : Ending} (h : Answer (Laid sf 4) sf (pathOf sf 4) (Bt.rval s3 0 (min 15 (8 * s3.size - 0))) s3 0 r w e w') :
    e = .returned (.tuple #[.int .i64 2, .int .i64 0]) ∧ RStep w w' r s3 3 := by
  have hp : Bt.rval s3 0 (min 15 (8 * s3.size - 0)) = 3 := by decide +kernel
  rw [hp] at h
  have one : ∀ i, Laid sf 4 i → 3 % 2 ^ sf i = pathOf sf 4 i → i = 2 := by
    rintro i ⟨hi, _⟩ e
    have : i = 0 ∨ i = 1 ∨ i = 2 ∨ i = 3 := by omega
    rcases this with rfl | rfl | rfl | rfl
    · exact absurd e (by decide +kernel)
    · exact absurd e (by decide +kernel)
    · rfl
    · exact absurd e (by decide +kernel)
  rcases h with ⟨i, h1, h2, h3, h4, h5⟩ | ⟨i, h1, h2, h3, h4, h5⟩ | ⟨h1, h2, h3⟩
  · obtain rfl := one i h1 h2
    exact ⟨h4, h5⟩
  · obtain rfl := one i h1 h2
    exact absurd h3 (by decide +kernel)
  · exact absurd (h1 2 ⟨by decide, by decide⟩) (by decide +kernel)

set_option maxRecDepth 100000 in
set_option maxHeartbeats 4000000 in
theorem speaks_yes (w : World) : Calls Try.prog 9 #[] w fun e w' => e = .returned (.bool true) ∧ Touch (fun _ => False) w w' := by
  go_enter Try.func9, Try.ntmps9
  go_wp2_with fail
  refine (new_ok (some ⟨w.heap.size, 0, none⟩) 4 4 sf _ (by decide) sf_le (sf_ints w) sf_err).mono ?_
  rintro e w1 ⟨b, rfl, hT, ht⟩
  have T1 := hid (((Touch.refl (fun _ => False) w).alloc (.cells #[.int .i64 2, .int .i64 1, .int .i64 3, .int .i64 3] 3)).trans ht (fun _ _ e => e))
  have HT := hid hT
  clear ht hT
  go_wp2_with fail
  refine (codes_tbl b _ _ sf 4 w1 (by decide) HT.out).mono ?_
  rintro e w2 ⟨v, rfl, ho, ht⟩
  obtain ⟨a, c, rfl, hi⟩ := own_ints' ho
  have HT2 := hid (HT.out.kept ht (fun _ _ _ e => e))
  have T2 := hid (T1.out.trans ht (fun _ _ e => e))
  have HI := hid hi
  clear ho ht hi HT T1
  go_wp2_with fail
  refine (open_any _ _).mono ?_
  rintro e w3 ⟨rfl, rfl⟩
  have hTr := HT2.out.kept ((Touch.refl (fun _ => False) w2).alloc (.cells #[.string s3, .int .i64 0] 65)) (fun _ _ _ e => e)
  have hnext := next_tbl b w2.heap.size 0 _ _ sf 4 s3 _ sf_le sf_err hTr (rd_new w2 s3) (by decide) (by decide)
  have HNX := hid hnext
  clear hnext hTr
  go_wp2_with fail
  refine HNX.out.mono ?_
  intro e w4 hans
  obtain ⟨rfl, hr⟩ := sf_next hans
  have T4 := hid (show Touch (fun _ => False) w w4 from (T2.out.alloc _).trans hr.touch (fun i hi e => by have := T2.out.size; omega))
  have tR : Touch (fun k => k = w2.heap.size) w2 w4 := ((Touch.refl _ w2).alloc _).trans hr.touch (fun _ _ e => e)
  have hi4 := HI.out.beside tR (fun b o _ hb e => by omega)
  clear hans hr tR
  rcases hi4 with h | ⟨b', o', ha, hb', hcell⟩
  · omega
  · subst ha
    have d0 : w4.cell? ⟨b', o', none⟩ = some (.int .i64 2) := hcell 0 (by decide)
    have d3 : w4.cell? ⟨b', o' + 3, none⟩ = some (.int .i64 7) := hcell 3 (by decide)
    clear hcell HI HNX HT2
    go_wp2
    go_ret
    exact ⟨rfl, T4.out⟩
end Go.Proofs.Ytokelpnmeknncaa
