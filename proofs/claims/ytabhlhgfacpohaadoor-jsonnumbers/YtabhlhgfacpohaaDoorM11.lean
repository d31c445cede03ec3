/- Texts of this proof, one behind the other: what each says stands ahead of it. -/
import Derived.Test.YtabhlhgfacpohaaDoorM10
/- JsonNumbers' walk where Parse reads a number; condition: the two tables of coding lie there. -/
namespace Go.Proofs.YtabhlhgfacpohaaDoor
open Go.RowKit

set_option maxRecDepth 100000 in
set_option maxHeartbeats 4000000 in
theorem numbers_ok (s : ByteArray) (x0 d0 l0 : Nat) (D : ByteArray) (w : World) (ht : Tabs w) (hz : s.size ≤ 1048576) (hn : numb s) (hp : parV s = .tuple #[numV s 0 s.size, fV 0 0]) (hs0 : 0 < s.size) (h0 : byN s 0 = x0) (hla : byN s (s.size - 1) = l0) (l1 : 48 ≤ l0) (l2 : l0 ≤ 57) (hD : D = if x0 = 45 then s.extract 1 s.size else s) (hD0 : 0 < D.size) (hd : byN D 0 = d0) (d1 : 48 ≤ d0) (d2 : d0 ≤ 57) (hc : d0 ≠ 48 ∨ D.size = 1 ∨ (1 < D.size ∧ (byN D 1 = 46 ∨ byN D 1 = 101 ∨ byN D 1 = 69))) :
    Calls Tryd.prog 3 #[.string s] w fun e w' => e = .returned (.bool true) ∧ Touch (fun _ => False) w w' := by
  have KS := hid (speaks_yes w ht)
  have HT := hid ht
  clear ht
  go_enter Tryd.func3, Tryd.ntmps3
  go_wp2_with fail
  refine KS.out.mono ?_
  rintro e w1 ⟨rfl, t1⟩
  have T1 := hid t1
  have H1 := hid (HT.out.new t1)
  clear t1 KS HT
  go_wp2_with fail
  have KP := hid (parse_num s w1 H1.out hn)
  rw [hp] at KP
  unfold numV fV at KP
  rw [show s.extract 0 s.size = s from by simp] at KP
  clear H1 hp
  go_loopg [3] s.size (fun gk v wq => ∃ k, k + gk = s.size ∧ v = .int .i64 (k : Nat) ∧ w1 = wq)
  case atStart => exact ⟨0, by omega, rfl, rfl⟩
  case round =>
    obtain ⟨k, hk, rfl, rfl⟩ := hrel
    by_cases hlt : k < s.size
    · have hl : (k : Int) < (s.size : Int) := by omega
      have hix := index_str s k hlt
      have hok := hn k hlt
      generalize byN s k = x at *
      unfold okC at hok
      rcases hok with hok | hok | hok | hok | hok | hok
      · have b1 : ¬ ((x : Int) < 48) := by omega
        have b2 : ¬ ((57 : Int) < (x : Int)) := by omega
        go_wp2
        go_roundg (gk - 1)
        case measure => omega
        case rel => exact ⟨k + 1, by omega, by go_num, rfl⟩
      all_goals (
        subst hok
        go_wp2
        go_roundg (gk - 1)
        case measure => omega
        case rel => exact ⟨k + 1, by omega, by go_num, rfl⟩)
    · have hl : ¬ (k : Int) < (s.size : Int) := by omega
      go_wp2_with fail
      refine KP.out.mono ?_
      rintro e w2 ⟨rfl, t2⟩
      have T2 := hid (T1.out.trans t2 (fun _ _ e => e))
      clear KP T1 t2
      have TA := hid (((T2.out.alloc (.cells #[.int .i64 3, .string s, .slice none 0 0, .slice none 0 0] 26)).alloc (.cells #[.int .i64 0, .int .i64 0] 29)))
      have KH := hid (fun w' => Show_num s w' (by omega))
      have ix0 : ∀ w', (Instr.index 9 (.string s) (.int .i64 0)).run Tryd.prog w' = .ok (.int .u8 (x0 : Nat)) w' := fun w' => by
        have := index_str s 0 hs0 w'
        rw [h0] at this
        exact this
      have ixl := index_str s (s.size - 1) (by omega)
      rw [hla, show ((s.size - 1 : Nat) : Int) = (s.size : Int) - 1 from by omega] at ixl
      have hs1 : (0 : Int) < (s.size : Int) := by omega
      have ixd : ∀ w', (Instr.index 9 (.string D) (.int .i64 0)).run Tryd.prog w' = .ok (.int .u8 (d0 : Nat)) w' := fun w' => by
        have := index_str D 0 hD0 w'
        rw [hd] at this
        exact this
      have b1 : (48 : Int) ≤ (d0 : Int) := by omega
      have b2 : (d0 : Int) ≤ 57 := by omega
      have b3 : (48 : Int) ≤ (l0 : Int) := by omega
      have b4 : (l0 : Int) ≤ 57 := by omega
      by_cases hx : x0 = 45
      · have hxi : ((x0 : Int) == 45) = true := by simp; omega
        rw [if_pos hx] at hD
        go_upto_region 15 with fail
        rw [← hD]
        clear hD ix0 hxi
        go_upto_region 16 with fail
        clear ixl
        go_wp2_with fail
        refine (KH.out _).mono ?_
        rintro e w3 ⟨rfl, t3⟩
        have T3 := hid (TA.out.trans t3 (fun _ _ e => e))
        clear KH TA T2 t3
        by_cases h48 : d0 = 48
        · have n0 : ((d0 : Int) != 48) = false := by simp; omega
          rcases hc with hc | hc | ⟨hc, he | he | he⟩
          · exact absurd h48 hc
          · have n1 : ((D.size : Int) == 1) = true := by simp; omega
            go_wp2
            go_ret
            exact ⟨rfl, T3.out⟩
          · have n1 : ((D.size : Int) == 1) = false := by simp; omega
            have ix1 : ∀ w', (Instr.index 9 (.string D) (.int .i64 1)).run Tryd.prog w' = .ok (.int .u8 46) w' := fun w' => by
              have := index_str D 1 hc w'
              rw [he] at this
              exact this
            go_wp2
            go_ret
            exact ⟨rfl, T3.out⟩
          · have n1 : ((D.size : Int) == 1) = false := by simp; omega
            have ix1 : ∀ w', (Instr.index 9 (.string D) (.int .i64 1)).run Tryd.prog w' = .ok (.int .u8 101) w' := fun w' => by
              have := index_str D 1 hc w'
              rw [he] at this
              exact this
            go_wp2
            go_ret
            exact ⟨rfl, T3.out⟩
          · have n1 : ((D.size : Int) == 1) = false := by simp; omega
            have ix1 : ∀ w', (Instr.index 9 (.string D) (.int .i64 1)).run Tryd.prog w' = .ok (.int .u8 69) w' := fun w' => by
              have := index_str D 1 hc w'
              rw [he] at this
              exact this
            go_wp2
            go_ret
            exact ⟨rfl, T3.out⟩
        · have n0 : ((d0 : Int) != 48) = true := by simp; omega
          clear hc
          go_wp2
          go_ret
          exact ⟨rfl, T3.out⟩
      · have hxi : ((x0 : Int) == 45) = false := by simp; omega
        rw [if_neg hx] at hD
        go_upto_region 15 with fail
        subst hD
        clear ix0 hxi
        go_upto_region 16 with fail
        clear ixl
        go_wp2_with fail
        refine (KH.out _).mono ?_
        rintro e w3 ⟨rfl, t3⟩
        have T3 := hid (TA.out.trans t3 (fun _ _ e => e))
        clear KH TA T2 t3
        by_cases h48 : d0 = 48
        · have n0 : ((d0 : Int) != 48) = false := by simp; omega
          rcases hc with hc | hc | ⟨hc, he | he | he⟩
          · exact absurd h48 hc
          · have n1 : ((D.size : Int) == 1) = true := by simp; omega
            go_wp2
            go_ret
            exact ⟨rfl, T3.out⟩
          · have n1 : ((D.size : Int) == 1) = false := by simp; omega
            have ix1 : ∀ w', (Instr.index 9 (.string D) (.int .i64 1)).run Tryd.prog w' = .ok (.int .u8 46) w' := fun w' => by
              have := index_str D 1 hc w'
              rw [he] at this
              exact this
            go_wp2
            go_ret
            exact ⟨rfl, T3.out⟩
          · have n1 : ((D.size : Int) == 1) = false := by simp; omega
            have ix1 : ∀ w', (Instr.index 9 (.string D) (.int .i64 1)).run Tryd.prog w' = .ok (.int .u8 101) w' := fun w' => by
              have := index_str D 1 hc w'
              rw [he] at this
              exact this
            go_wp2
            go_ret
            exact ⟨rfl, T3.out⟩
          · have n1 : ((D.size : Int) == 1) = false := by simp; omega
            have ix1 : ∀ w', (Instr.index 9 (.string D) (.int .i64 1)).run Tryd.prog w' = .ok (.int .u8 69) w' := fun w' => by
              have := index_str D 1 hc w'
              rw [he] at this
              exact this
            go_wp2
            go_ret
            exact ⟨rfl, T3.out⟩
        · have n0 : ((d0 : Int) != 48) = true := by simp; omega
          clear hc
          go_wp2
          go_ret
          exact ⟨rfl, T3.out⟩
end Go.Proofs.YtabhlhgfacpohaaDoor

/- JsonNumbers, the walk whole: condition: the two tables of coding lie there. -/
namespace Go.Proofs.YtabhlhgfacpohaaDoor
open Go.RowKit

theorem least {p : Nat → Prop} : ∀ n, (∃ m, m < n ∧ ¬ p m ∧ ∀ i, i < m → p i) ∨ ∀ i, i < n → p i
  | 0 => .inr (fun i h => absurd h (Nat.not_lt_zero _))
  | n + 1 => by
    rcases least (p := p) n with ⟨m, h1, h2, h3⟩ | h
    · exact .inl ⟨m, by omega, h2, h3⟩
    · by_cases hp : p n
      · refine .inr (fun i hi => ?_)
        by_cases e : i = n
        · rw [e]; exact hp
        · exact h i (by omega)
      · exact .inl ⟨n, by omega, hp, h⟩
theorem ext_size (s : ByteArray) : (s.extract 1 s.size).size = s.size - 1 := by
  rw [ByteArray.size_extract]
  omega
theorem ext_by (s : ByteArray) (j : Nat) (h : j + 1 < s.size) : byN (s.extract 1 s.size) j = byN s (j + 1) := by
  have h0 : j < (s.extract 1 s.size).size := by rw [ext_size]; omega
  rw [← by_get _ _ h0, ← by_get _ _ h, ByteArray.getElem_extract]
  congr 2
  omega
theorem jsonNumbers_walk (s : ByteArray) (w : World) (ht : Tabs w) (hz : s.size ≤ 140737488355328) :
    Calls Tryd.prog 3 #[.string s] w fun e w' => e = .returned (.bool true) ∧ Touch (fun _ => False) w w' := by
  rcases least (p := fun i => okC (byN s i)) s.size with ⟨m, h1, h2, h3⟩ | hn
  · exact numbers_bad s m w ht hz h1 h2 h3
  · have hn : numb s := hn
    by_cases hl : 1048576 < s.size
    · exact numbers_err s 2 0 w ht hz hn (by unfold parV; rw [if_pos hl]) (by decide)
    · cases hX : numE s 0 with
      | error k => exact numbers_err s 20 k w ht hz hn (by unfold parV; rw [if_neg hl, hX]) (by decide)
      | ok u =>
        by_cases he : u = s.size
        · rw [he] at hX
          obtain ⟨p1, p2, p3⟩ := num_law hX
          have hs0 : 0 < s.size := by have := p2.1; omega
          have hp : parV s = .tuple #[numV s 0 s.size, fV 0 0] := by unfold parV; rw [if_neg hl, hX]; simp only; rw [if_pos trivial]
          have hst : stp s 0 45 = if byN s 0 = 45 then 1 else 0 := by
            unfold stp
            rw [lk_by, if_pos hs0]
            by_cases h : byN s 0 = 45
            · rw [if_pos (by omega), if_pos h]
            · rw [if_neg (by omega), if_neg h]
          rw [hst] at p1 p3
          by_cases h : byN s 0 = 45
          · rw [if_pos h] at p1 p3
            refine numbers_ok s 45 (byN s 1) (byN s (s.size - 1)) (s.extract 1 s.size) w ht (by omega) hn hp hs0 h rfl p2.2.1 p2.2.2 (if_pos rfl).symm (by rw [ext_size]; have := p1.1; omega) (ext_by s 0 p1.1) p1.2.1 p1.2.2 ?_
            rw [ext_size]
            rcases p3 with p3 | p3 | ⟨p3, p4⟩
            · exact .inl p3
            · exact .inr (.inl (by omega))
            · rw [ext_by s 1 p3]
              exact .inr (.inr ⟨by omega, p4⟩)
          · rw [if_neg h] at p1 p3
            refine numbers_ok s (byN s 0) (byN s 0) (byN s (s.size - 1)) s w ht (by omega) hn hp hs0 rfl rfl p2.2.1 p2.2.2 (if_neg h).symm hs0 rfl p1.2.1 p1.2.2 ?_
            rcases p3 with p3 | p3 | ⟨p3, p4⟩
            · exact .inl p3
            · exact .inr (.inl (by omega))
            · exact .inr (.inr ⟨p3, p4⟩)
        · exact numbers_err s 20 u w ht hz hn (by unfold parV; rw [if_neg hl, hX]; simp only; rw [if_neg he]) (by decide)
end Go.Proofs.YtabhlhgfacpohaaDoor
