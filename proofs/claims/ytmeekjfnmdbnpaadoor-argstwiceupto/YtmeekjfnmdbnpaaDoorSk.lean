/- speaks; Pack of one text; condition: the library's variables lie there. -/
import Derived.Test.YtmeekjfnmdbnpaaDoorUn
import Derived.Test.YtmeekjfnmdbnpaaDoorPk
namespace Go.Proofs.YtmeekjfnmdbnpaaDoor
open Go.RowKit
open Go.Lib

theorem nl_new (w : World) (l : List Bs) : Nl (w.alloc (.cells (l.map sv).toArray 9)) (.slice (some ⟨w.heap.size, 0, none⟩) l.length l.length) l := by
  refine ⟨_, _, rfl, .inr ⟨w.heap.size, 0, rfl, ?_, fun j hj => ?_⟩⟩
  · show _ < (w.heap.push _).size
    simp
  · have h := row_new w (l.map sv) 9 j (sv l[j]) (by rw [List.getElem?_map, List.getElem?_eq_getElem hj]; rfl)
    rw [add_g] at h
    rw [Nat.zero_add]
    exact h
theorem nl_cell {w : World} {q c : Nat} {a : ByteArray} (h : w.cell? ⟨q, 0, none⟩ = some (.string a)) : Nl w (.slice (some ⟨q, 0, none⟩) 1 c) [a.data.toList] := by
  refine ⟨_, _, rfl, .inr ⟨q, 0, rfl, Lib.lt_of_cell h, fun j hj => ?_⟩⟩
  have : j = 0 := by simpa using hj
  subst this
  exact h
theorem pack_one (q c : Nat) (a : ByteArray) (w : World) (h : w.cell? ⟨q, 0, none⟩ = some (.string a)) (hx : Sx w) (ha : a.size ≤ 9999999) :
    Calls Tryd.prog 9 #[.slice (some ⟨q, 0, none⟩) 1 c] w fun e w' => e = .returned (sv (pk a.data.toList)) ∧ Touch (fun _ => False) w w' := by
  refine (pack_any _ [a.data.toList] w (nl_cell h) hx ?_).mono ?_
  · unfold wt wt
    rw [len_size]
    omega
  · rintro e w' ⟨rfl, t⟩
    refine ⟨?_, t⟩
    unfold packL packL
    rw [len_size, if_neg (by omega), List.append_nil]
theorem sp_pack : packL [[97, 98], []] = [50, 58, 97, 98, 44, 48, 58, 44] := by decide +kernel
set_option maxRecDepth 100000 in
set_option maxHeartbeats 4000000 in
theorem speaks_yes (w : World) (hx : Sx w) : Calls Tryd.prog 8 #[] w fun e w' => e = .returned (.bool true) ∧ Touch (fun _ => False) w w' := by
  have T0 := hid ((Touch.refl (fun _ => False) w).alloc (.cells #[.string ⟨#[97, 98]⟩, .string ⟨#[]⟩] 9))
  have N0 := hid (nl_new w [[97, 98], []])
  change Hid (Nl (w.alloc (.cells #[.string ⟨#[97, 98]⟩, .string ⟨#[]⟩] 9)) (.slice (some ⟨w.heap.size, 0, none⟩) 2 2) [[97, 98], []]) at N0
  have X0 := hid (hx.new T0.out)
  clear hx
  go_enter Tryd.func8, Tryd.ntmps8
  go_wp2_with fail
  generalize w.alloc (.cells #[.string ⟨#[97, 98]⟩, .string ⟨#[]⟩] 9) = w0 at *
  generalize w.heap.size = q at *
  have K := hid (pack_any _ _ w0 N0.out X0.out (by decide))
  rw [sp_pack] at K
  unfold sv at K
  refine K.out.mono ?_
  rintro e w1 ⟨rfl, t1⟩
  have T1 := hid (T0.out.trans t1 (fun _ _ e => e))
  clear t1 K N0 X0
  go_wp2
  go_ret
  exact ⟨rfl, T1.out⟩
end Go.Proofs.YtmeekjfnmdbnpaaDoor
