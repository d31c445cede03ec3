/- Texts of this proof, one behind the other: what each says stands ahead of it. -/
import Derived.Test.YtjpmjcadnnglnaaDoorM15
import Derived.Test.YtjpmjcadnnglnaaDoorM4
/- The document's one, Mark and begins; conditions: those told. -/
namespace Go.Proofs.YtjpmjcadnnglnaaDoor
open Go.RowKit

set_option maxRecDepth 100000 in
theorem docOne_four (s : ByteArray) (a : Nat) (w : World) (ha : a < s.size) : Calls Tryd.prog 29 #[.string s, .int .i64 a, .int .i64 4] w fun e w' => e = .returned (.tuple #[.int .i64 (byN s a : Nat), .int .i64 1]) ∧ Touch (fun _ => False) w w' := by
  have haI : (a : Int) < (s.size : Int) := by omega
  have HB := hid (by_get s a ha)
  have hbl := by_lt s a
  go_enter Tryd.func29, Tryd.ntmps29
  go_wp2
  go_ret2
  exact ⟨by rw [HB.out, IntWalk.wrap64_in _ (by omega)]; rfl, Touch.refl _ _⟩
set_option maxRecDepth 100000 in
theorem docOne_one (s : ByteArray) (a : Nat) (w : World) (ha : a < s.size) (hs : s.size ≤ 1099511627776) : Calls Tryd.prog 29 #[.string s, .int .i64 a, .int .i64 1] w fun e w' => e = .returned (.tuple #[.int .i64 (dk8 s a).1, .int .i64 ((dk8 s a).2 : Nat)]) ∧ Touch (fun _ => False) w w' := by
  have haI : (a : Int) < (s.size : Int) := by omega
  have K := hid (docUtf8_any s a w ha hs)
  generalize dk8 s a = R at *
  go_enter Tryd.func29, Tryd.ntmps29
  go_wp2_with fail
  refine K.out.mono ?_
  rintro e w1 ⟨rfl, rfl⟩
  go_wp2
  go_ret2
  exact ⟨rfl, Touch.refl _ _⟩
set_option maxRecDepth 100000 in
set_option maxHeartbeats 4000000 in
theorem docOne_two (s : ByteArray) (a : Nat) (w : World) (ha : a < s.size) (hs : s.size ≤ 1099511627776) : Calls Tryd.prog 29 #[.string s, .int .i64 a, .int .i64 2] w fun e w' => e = .returned (.tuple #[.int .i64 (tk16 (unitL s) a).1, .int .i64 ((tk16 (unitL s) a).2 : Nat)]) ∧ Touch (fun _ => False) w w' := by
  have haI : (a : Int) < (s.size : Int) := by omega
  obtain ⟨R, hR⟩ : ∃ R, tk16 (unitL s) a = R := ⟨_, rfl⟩
  have HR := hid hR
  unfold tk16 at HR
  rw [hR]
  clear hR
  by_cases h1 : s.size ≤ a + 1
  · have HE := hid (show (-1, 1) = R by rw [← HR.out, if_pos (by unfold unitL; rw [if_pos (by omega)])])
    have h1I : (s.size : Int) ≤ (a : Int) + 1 := by omega
    go_enter Tryd.func29, Tryd.ntmps29
    go_wp2
    go_ret2
    exact ⟨by rw [← HE.out]; rfl, Touch.refl _ _⟩
  have h1I : ¬ ((s.size : Int) ≤ (a : Int) + 1) := by omega
  have K1 := hid (docUnit_two s a w (by omega) hs)
  have hu0 : unitL s a = (((byN s a + 256 * byN s (a + 1)) : Nat) : Int) := by unfold unitL; rw [if_neg (by omega)]
  have hul : 0 ≤ (((byN s a + 256 * byN s (a + 1)) : Nat) : Int) ∧ (((byN s a + 256 * byN s (a + 1)) : Nat) : Int) ≤ 65535 := by have := by_lt s a; have := by_lt s (a + 1); omega
  obtain ⟨u, hu⟩ : ∃ u : Int, u = (((byN s a + 256 * byN s (a + 1)) : Nat) : Int) := ⟨_, rfl⟩
  rw [← hu] at K1 hu0 hul
  rw [hu0, if_neg (by omega)] at HR
  clear hu hu0
  by_cases h2 : 55296 ≤ u ∧ u < 57344
  · rw [if_neg (fun q => q (by omega))] at HR
    obtain ⟨h2a, h2b⟩ := h2
    have h2I : ¬ (u < 55296) := by omega
    have h2J : ¬ (57343 < u) := by omega
    have h2K : 55296 ≤ u := by omega
    by_cases h3 : u < 56320
    · have h3I : u < 56320 := by omega
      by_cases h4 : a + 4 ≤ s.size
      · have h4I : 4 ≤ (s.size : Int) - (a : Int) := by omega
        have KV := hid (fun wq => docUnit_two s (a + 2) wq (by omega) hs)
        have hv0 : unitL s (a + 2) = (((byN s (a + 2) + 256 * byN s (a + 2 + 1)) : Nat) : Int) := by unfold unitL; rw [if_neg (by omega)]
        have hvl : 0 ≤ (((byN s (a + 2) + 256 * byN s (a + 2 + 1)) : Nat) : Int) ∧ (((byN s (a + 2) + 256 * byN s (a + 2 + 1)) : Nat) : Int) ≤ 65535 := by have := by_lt s (a + 2); have := by_lt s (a + 2 + 1); omega
        obtain ⟨v, hv⟩ : ∃ v : Int, v = (((byN s (a + 2) + 256 * byN s (a + 2 + 1)) : Nat) : Int) := ⟨_, rfl⟩
        rw [← hv] at KV hv0 hvl
        rw [hv0] at HR
        rw [show ((a + 2 : Nat) : Int) = (a : Int) + 2 by omega] at KV
        clear hv hv0
        by_cases h5 : 56320 ≤ v ∧ v ≤ 57343
        · have HE := hid (show (65536 + (u - 55296) * 1024 + v - 56320, 4) = R by rw [← HR.out, if_neg (by omega)])
          obtain ⟨h5a, h5b⟩ := h5
          have h5I : 56320 ≤ v := by omega
          have h5J : v ≤ 57343 := by omega
          go_enter Tryd.func29, Tryd.ntmps29
          go_wp2_with fail
          refine K1.out.mono ?_
          rintro e w1 ⟨rfl, tc⟩
          have T := hid tc
          clear tc K1
          go_wp2_with fail
          refine (KV.out w1).mono ?_
          rintro e w2 ⟨rfl, tc⟩
          replace T := hid (T.out.trans tc (fun _ _ e => e))
          clear tc KV
          go_wp2
          go_ret2
          refine ⟨?_, T.out⟩
          rw [← HE.out]
          have e : 65536 + 1024 * (u - 55296) + v - 56320 = 65536 + (u - 55296) * 1024 + v - 56320 := by omega
          exact congrArg (fun z => Ending.returned (.tuple #[.int .i64 z, .int .i64 4])) e
        · have HE := hid (show (-1, 2) = R by rw [← HR.out, if_pos (by omega)])
          rcases (show v < 56320 ∨ (56320 ≤ v ∧ 57343 < v) by omega) with h6 | ⟨h6, h7⟩
          · have h6I : ¬ (56320 ≤ v) := by omega
            go_enter Tryd.func29, Tryd.ntmps29
            go_wp2_with fail
            refine K1.out.mono ?_
            rintro e w1 ⟨rfl, tc⟩
            have T := hid tc
            clear tc K1
            go_wp2_with fail
            refine (KV.out w1).mono ?_
            rintro e w2 ⟨rfl, tc⟩
            replace T := hid (T.out.trans tc (fun _ _ e => e))
            clear tc KV
            go_wp2
            go_ret2
            exact ⟨by rw [← HE.out]; rfl, T.out⟩
          · have h6I : 56320 ≤ v := by omega
            have h7I : ¬ (v ≤ 57343) := by omega
            go_enter Tryd.func29, Tryd.ntmps29
            go_wp2_with fail
            refine K1.out.mono ?_
            rintro e w1 ⟨rfl, tc⟩
            have T := hid tc
            clear tc K1
            go_wp2_with fail
            refine (KV.out w1).mono ?_
            rintro e w2 ⟨rfl, tc⟩
            replace T := hid (T.out.trans tc (fun _ _ e => e))
            clear tc KV
            go_wp2
            go_ret2
            exact ⟨by rw [← HE.out]; rfl, T.out⟩
      · have h4I : ¬ (4 ≤ (s.size : Int) - (a : Int)) := by omega
        have HE := hid (show (-1, 2) = R by rw [← HR.out, if_pos (.inr (.inl (by unfold unitL; rw [if_pos (by omega)]; decide)))])
        go_enter Tryd.func29, Tryd.ntmps29
        go_wp2_with fail
        refine K1.out.mono ?_
        rintro e w1 ⟨rfl, tc⟩
        have T := hid tc
        clear tc K1
        go_wp2
        go_ret2
        exact ⟨by rw [← HE.out]; rfl, T.out⟩
    · have h3I : ¬ (u < 56320) := by omega
      have HE := hid (show (-1, 2) = R by rw [← HR.out, if_pos (.inl (by omega))])
      go_enter Tryd.func29, Tryd.ntmps29
      go_wp2_with fail
      refine K1.out.mono ?_
      rintro e w1 ⟨rfl, tc⟩
      have T := hid tc
      clear tc K1
      go_wp2
      go_ret2
      exact ⟨by rw [← HE.out]; rfl, T.out⟩
  · have HE := hid (show (u, 2) = R by rw [← HR.out, if_pos (by omega)])
    rcases (show u < 55296 ∨ (55296 ≤ u ∧ 57343 < u) by omega) with h3 | ⟨h3, h4⟩
    · have h3I : u < 55296 := by omega
      go_enter Tryd.func29, Tryd.ntmps29
      go_wp2_with fail
      refine K1.out.mono ?_
      rintro e w1 ⟨rfl, tc⟩
      have T := hid tc
      clear tc K1
      go_wp2
      go_ret2
      exact ⟨by rw [← HE.out]; rfl, T.out⟩
    · have h3I : ¬ (u < 55296) := by omega
      have h4I : 57343 < u := by omega
      go_enter Tryd.func29, Tryd.ntmps29
      go_wp2_with fail
      refine K1.out.mono ?_
      rintro e w1 ⟨rfl, tc⟩
      have T := hid tc
      clear tc K1
      go_wp2
      go_ret2
      exact ⟨by rw [← HE.out]; rfl, T.out⟩
set_option maxRecDepth 100000 in
set_option maxHeartbeats 4000000 in
theorem docOne_three (s : ByteArray) (a : Nat) (w : World) (ha : a < s.size) (hs : s.size ≤ 1099511627776) : Calls Tryd.prog 29 #[.string s, .int .i64 a, .int .i64 3] w fun e w' => e = .returned (.tuple #[.int .i64 (tk16 (unitB s) a).1, .int .i64 ((tk16 (unitB s) a).2 : Nat)]) ∧ Touch (fun _ => False) w w' := by
  have haI : (a : Int) < (s.size : Int) := by omega
  obtain ⟨R, hR⟩ : ∃ R, tk16 (unitB s) a = R := ⟨_, rfl⟩
  have HR := hid hR
  unfold tk16 at HR
  rw [hR]
  clear hR
  by_cases h1 : s.size ≤ a + 1
  · have HE := hid (show (-1, 1) = R by rw [← HR.out, if_pos (by unfold unitB; rw [if_pos (by omega)])])
    have h1I : (s.size : Int) ≤ (a : Int) + 1 := by omega
    go_enter Tryd.func29, Tryd.ntmps29
    go_wp2
    go_ret2
    exact ⟨by rw [← HE.out]; rfl, Touch.refl _ _⟩
  have h1I : ¬ ((s.size : Int) ≤ (a : Int) + 1) := by omega
  have K1 := hid (docUnit_three s a w (by omega) hs)
  have hu0 : unitB s a = (((byN s (a + 1) + 256 * byN s a) : Nat) : Int) := by unfold unitB; rw [if_neg (by omega)]
  have hul : 0 ≤ (((byN s (a + 1) + 256 * byN s a) : Nat) : Int) ∧ (((byN s (a + 1) + 256 * byN s a) : Nat) : Int) ≤ 65535 := by have := by_lt s a; have := by_lt s (a + 1); omega
  obtain ⟨u, hu⟩ : ∃ u : Int, u = (((byN s (a + 1) + 256 * byN s a) : Nat) : Int) := ⟨_, rfl⟩
  rw [← hu] at K1 hu0 hul
  rw [hu0, if_neg (by omega)] at HR
  clear hu hu0
  by_cases h2 : 55296 ≤ u ∧ u < 57344
  · rw [if_neg (fun q => q (by omega))] at HR
    obtain ⟨h2a, h2b⟩ := h2
    have h2I : ¬ (u < 55296) := by omega
    have h2J : ¬ (57343 < u) := by omega
    have h2K : 55296 ≤ u := by omega
    by_cases h3 : u < 56320
    · have h3I : u < 56320 := by omega
      by_cases h4 : a + 4 ≤ s.size
      · have h4I : 4 ≤ (s.size : Int) - (a : Int) := by omega
        have KV := hid (fun wq => docUnit_three s (a + 2) wq (by omega) hs)
        have hv0 : unitB s (a + 2) = (((byN s (a + 2 + 1) + 256 * byN s (a + 2)) : Nat) : Int) := by unfold unitB; rw [if_neg (by omega)]
        have hvl : 0 ≤ (((byN s (a + 2 + 1) + 256 * byN s (a + 2)) : Nat) : Int) ∧ (((byN s (a + 2 + 1) + 256 * byN s (a + 2)) : Nat) : Int) ≤ 65535 := by have := by_lt s (a + 2); have := by_lt s (a + 2 + 1); omega
        obtain ⟨v, hv⟩ : ∃ v : Int, v = (((byN s (a + 2 + 1) + 256 * byN s (a + 2)) : Nat) : Int) := ⟨_, rfl⟩
        rw [← hv] at KV hv0 hvl
        rw [hv0] at HR
        rw [show ((a + 2 : Nat) : Int) = (a : Int) + 2 by omega] at KV
        clear hv hv0
        by_cases h5 : 56320 ≤ v ∧ v ≤ 57343
        · have HE := hid (show (65536 + (u - 55296) * 1024 + v - 56320, 4) = R by rw [← HR.out, if_neg (by omega)])
          obtain ⟨h5a, h5b⟩ := h5
          have h5I : 56320 ≤ v := by omega
          have h5J : v ≤ 57343 := by omega
          go_enter Tryd.func29, Tryd.ntmps29
          go_wp2_with fail
          refine K1.out.mono ?_
          rintro e w1 ⟨rfl, tc⟩
          have T := hid tc
          clear tc K1
          go_wp2_with fail
          refine (KV.out w1).mono ?_
          rintro e w2 ⟨rfl, tc⟩
          replace T := hid (T.out.trans tc (fun _ _ e => e))
          clear tc KV
          go_wp2
          go_ret2
          refine ⟨?_, T.out⟩
          rw [← HE.out]
          have e : 65536 + 1024 * (u - 55296) + v - 56320 = 65536 + (u - 55296) * 1024 + v - 56320 := by omega
          exact congrArg (fun z => Ending.returned (.tuple #[.int .i64 z, .int .i64 4])) e
        · have HE := hid (show (-1, 2) = R by rw [← HR.out, if_pos (by omega)])
          rcases (show v < 56320 ∨ (56320 ≤ v ∧ 57343 < v) by omega) with h6 | ⟨h6, h7⟩
          · have h6I : ¬ (56320 ≤ v) := by omega
            go_enter Tryd.func29, Tryd.ntmps29
            go_wp2_with fail
            refine K1.out.mono ?_
            rintro e w1 ⟨rfl, tc⟩
            have T := hid tc
            clear tc K1
            go_wp2_with fail
            refine (KV.out w1).mono ?_
            rintro e w2 ⟨rfl, tc⟩
            replace T := hid (T.out.trans tc (fun _ _ e => e))
            clear tc KV
            go_wp2
            go_ret2
            exact ⟨by rw [← HE.out]; rfl, T.out⟩
          · have h6I : 56320 ≤ v := by omega
            have h7I : ¬ (v ≤ 57343) := by omega
            go_enter Tryd.func29, Tryd.ntmps29
            go_wp2_with fail
            refine K1.out.mono ?_
            rintro e w1 ⟨rfl, tc⟩
            have T := hid tc
            clear tc K1
            go_wp2_with fail
            refine (KV.out w1).mono ?_
            rintro e w2 ⟨rfl, tc⟩
            replace T := hid (T.out.trans tc (fun _ _ e => e))
            clear tc KV
            go_wp2
            go_ret2
            exact ⟨by rw [← HE.out]; rfl, T.out⟩
      · have h4I : ¬ (4 ≤ (s.size : Int) - (a : Int)) := by omega
        have HE := hid (show (-1, 2) = R by rw [← HR.out, if_pos (.inr (.inl (by unfold unitB; rw [if_pos (by omega)]; decide)))])
        go_enter Tryd.func29, Tryd.ntmps29
        go_wp2_with fail
        refine K1.out.mono ?_
        rintro e w1 ⟨rfl, tc⟩
        have T := hid tc
        clear tc K1
        go_wp2
        go_ret2
        exact ⟨by rw [← HE.out]; rfl, T.out⟩
    · have h3I : ¬ (u < 56320) := by omega
      have HE := hid (show (-1, 2) = R by rw [← HR.out, if_pos (.inl (by omega))])
      go_enter Tryd.func29, Tryd.ntmps29
      go_wp2_with fail
      refine K1.out.mono ?_
      rintro e w1 ⟨rfl, tc⟩
      have T := hid tc
      clear tc K1
      go_wp2
      go_ret2
      exact ⟨by rw [← HE.out]; rfl, T.out⟩
  · have HE := hid (show (u, 2) = R by rw [← HR.out, if_pos (by omega)])
    rcases (show u < 55296 ∨ (55296 ≤ u ∧ 57343 < u) by omega) with h3 | ⟨h3, h4⟩
    · have h3I : u < 55296 := by omega
      go_enter Tryd.func29, Tryd.ntmps29
      go_wp2_with fail
      refine K1.out.mono ?_
      rintro e w1 ⟨rfl, tc⟩
      have T := hid tc
      clear tc K1
      go_wp2
      go_ret2
      exact ⟨by rw [← HE.out]; rfl, T.out⟩
    · have h3I : ¬ (u < 55296) := by omega
      have h4I : 57343 < u := by omega
      go_enter Tryd.func29, Tryd.ntmps29
      go_wp2_with fail
      refine K1.out.mono ?_
      rintro e w1 ⟨rfl, tc⟩
      have T := hid tc
      clear tc K1
      go_wp2
      go_ret2
      exact ⟨by rw [← HE.out]; rfl, T.out⟩
theorem docOne_any (s : ByteArray) (a c : Nat) (w : World) (hc : 1 ≤ c ∧ c ≤ 4) (ha : a < s.size) (hs : s.size ≤ 1099511627776) : Calls Tryd.prog 29 #[.string s, .int .i64 a, .int .i64 c] w fun e w' => e = .returned (.tuple #[.int .i64 (tkAt s c a).1, .int .i64 ((tkAt s c a).2 : Nat)]) ∧ Touch (fun _ => False) w w' := by
  rcases (show c = 1 ∨ c = 2 ∨ c = 3 ∨ c = 4 by omega) with rfl | rfl | rfl | rfl
  · rw [show tkAt s 1 a = dk8 s a from (dk_tk s a ha).symm]
    exact docOne_one s a w ha hs
  · exact docOne_two s a w ha hs
  · exact docOne_three s a w ha hs
  · exact docOne_four s a w ha
end Go.Proofs.YtjpmjcadnnglnaaDoor

/- The document's Mark and begins; no condition beside those told. -/
namespace Go.Proofs.YtjpmjcadnnglnaaDoor
open Go.RowKit

set_option maxRecDepth 100000 in
theorem begins_any (s p : ByteArray) (w : World) : Calls Tryd.prog 27 #[.string s, .string p] w fun e w' => e = .returned (.bool (begB s p)) ∧ w = w' := by
  by_cases h : p.size ≤ s.size
  · have hI : (p.size : Int) ≤ (s.size : Int) := by omega
    have HB := hid (show begB s p = ((s.extract 0 p.size).toList == p.toList) by unfold begB; rw [decide_eq_true h]; rfl)
    go_enter Tryd.func27, Tryd.ntmps27
    go_wp2
    go_ret
    exact ⟨by rw [HB.out]; rfl, rfl⟩
  · have hI : ¬ ((p.size : Int) ≤ (s.size : Int)) := by omega
    have HB := hid (show begB s p = false by unfold begB; rw [decide_eq_false h]; rfl)
    go_enter Tryd.func27, Tryd.ntmps27
    go_wp2
    go_ret
    exact ⟨by rw [HB.out]; rfl, rfl⟩
theorem conv_lit (w : World) (l : List UInt8) (n : Nat) (hn : n = l.length) (cs : Array Value) (hcs : cs = (l.map fun b => Value.int .u8 (b.toNat : Int)).toArray) : (convert 97 9 (.slice (some ⟨w.heap.size, 0, none⟩) n n)).run Tryd.prog (w.alloc (.cells cs 5)) = .ok (.string ⟨l.toArray⟩) (w.alloc (.cells cs 5)) := by
  subst hn hcs
  refine run_convert_bytes_back (P := Tryd.prog) _ 97 9 5 ⟨w.heap.size, 0, none⟩ l.length l Tryd.underlying97 Tryd.underlying5 Tryd.underlying9 (fun j hj => ?_)
  rw [add_g]
  unfold World.cell?
  rw [block_new]
  simp [hj]
set_option maxRecDepth 100000 in
theorem mark_one (w : World) : Calls Tryd.prog 28 #[.int .i64 1] w fun e w' => e = .returned (.string (mk 1)) ∧ Touch (fun _ => False) w w' := by
  have hcv := conv_lit w [239, 187, 191] 3 rfl #[.int .u8 239, .int .u8 187, .int .u8 191] rfl
  go_enter Tryd.func28, Tryd.ntmps28
  go_wp2
  go_ret
  exact ⟨rfl, (Touch.refl _ w).alloc _⟩
set_option maxRecDepth 100000 in
theorem mark_two (w : World) : Calls Tryd.prog 28 #[.int .i64 2] w fun e w' => e = .returned (.string (mk 2)) ∧ Touch (fun _ => False) w w' := by
  have hcv := conv_lit w [255, 254] 2 rfl #[.int .u8 255, .int .u8 254] rfl
  go_enter Tryd.func28, Tryd.ntmps28
  go_wp2
  go_ret
  exact ⟨rfl, (Touch.refl _ w).alloc _⟩
set_option maxRecDepth 100000 in
theorem mark_three (w : World) : Calls Tryd.prog 28 #[.int .i64 3] w fun e w' => e = .returned (.string (mk 3)) ∧ Touch (fun _ => False) w w' := by
  have hcv := conv_lit w [254, 255] 2 rfl #[.int .u8 254, .int .u8 255] rfl
  go_enter Tryd.func28, Tryd.ntmps28
  go_wp2
  go_ret
  exact ⟨rfl, (Touch.refl _ w).alloc _⟩
set_option maxRecDepth 100000 in
theorem mark_four (w : World) : Calls Tryd.prog 28 #[.int .i64 4] w fun e w' => e = .returned (.string (mk 4)) ∧ Touch (fun _ => False) w w' := by
  go_enter Tryd.func28, Tryd.ntmps28
  go_wp2
  go_ret
  exact ⟨rfl, Touch.refl _ w⟩
theorem mark_any (c : Nat) (hc : 1 ≤ c ∧ c ≤ 4) (w : World) : Calls Tryd.prog 28 #[.int .i64 c] w fun e w' => e = .returned (.string (mk c)) ∧ Touch (fun _ => False) w w' := by
  rcases (show c = 1 ∨ c = 2 ∨ c = 3 ∨ c = 4 by omega) with rfl | rfl | rfl | rfl
  · exact mark_one w
  · exact mark_two w
  · exact mark_three w
  · exact mark_four w
end Go.Proofs.YtjpmjcadnnglnaaDoor
