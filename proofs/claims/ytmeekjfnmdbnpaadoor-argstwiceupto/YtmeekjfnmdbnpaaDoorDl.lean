/- A key is taken out of those that are left; no condition. -/
import Derived.Test.YtmeekjfnmdbnpaaDoorIx
import Derived.Shelf.RegionOpenPlain
namespace Go.Proofs.YtmeekjfnmdbnpaaDoor
open Go.RowKit
open Go.Lib

theorem flatK_one (b : Nat) (l : List Nat) : ∀ u ∈ flatK b l, u.oneCell' = true := by
  intro u hu
  simp only [flatK, List.mem_flatMap, kcell] at hu
  obtain ⟨k, _, hx⟩ := hu
  simp at hx
  rcases hx with rfl | rfl <;> rfl
theorem size_setCells (g : Nat) : ∀ (vs : List Value) (o : Nat) (w : World), (w.setCells g o vs).heap.size = w.heap.size
  | [], _, _ => rfl
  | v :: r, o, w => by
    rw [World.setCells, size_setCells g r]
    simp [World.setCell]
theorem touch_setCells {a w : World} {g : Nat} (h : Touch (fun k => k = g) a w) : ∀ (vs : List Value) (o : Nat), Touch (fun k => k = g) a (w.setCells g o vs) := by
  intro vs
  induction vs generalizing w with
  | nil => intro o; exact h
  | cons v r ih =>
    intro o
    exact ih (h.setCell (p := ⟨g, o, none⟩) (fun _ => rfl) v) (o + 1)
theorem info87 : (Tryd.prog.info? 87).map (fun i => (i.zero, i.size, i.bytes)) = some (some (.agg #[.string ⟨#[]⟩, .nilIface]), 2, 32) := by kernel_rfl
theorem run_clear2 (w : World) (g o c : Nat) (ty : TypeId) (h : ∀ t, t < 2 → (w.cell? ⟨g, o + t, none⟩).isSome = true ∧ w.frozen? ⟨g, o + t, none⟩ = false) :
    (Builtin.clear_ #[81] ty #[.slice (some ⟨g, o, none⟩) 1 c]).run Tryd.prog w = .ok (.tuple #[]) (w.setCells g o [.string ⟨#[]⟩, .nilIface]) := by
  have hst := run_storeCells_cells (P := Tryd.prog) g o [.string ⟨#[]⟩, .nilIface] 0 w (fun j hj => by simpa using (h j hj).1) (fun j hj => by simpa using (h j hj).2) (by
    intro v hv
    simp at hv
    rcases hv with rfl | rfl <;> rfl)
  simp only [Nat.add_zero] at hst
  have hz : (Builtin.zeroCells (Value.agg #[.string ⟨#[]⟩, .nilIface]).cells 1).toList = [.string ⟨#[]⟩, .nilIface] := by kernel_rfl
  simp [Builtin.clear_, run_underlying Tryd.underlying81, Tryd.zeroValue87, hz, hst]
set_option maxRecDepth 100000 in
set_option maxHeartbeats 4000000 in
theorem delete_any (g b i j : Nat) (left : List Nat) (w : World) (hk : KL w g b left) (hi : i < left.length) (hj : j = i + 1) :
    Calls Tryd.prog 34 #[.slice (some ⟨g, 0, none⟩) left.length 18, .int .i64 (i : Nat), .int .i64 (j : Nat)] w fun e w' => e = .returned (.slice (some ⟨g, 0, none⟩) (left.length - 1) 18) ∧ KL w' g b (left.eraseIdx i) ∧ Touch (fun k => k = g) w w' := by
  obtain ⟨i0, hi0, hz0, hz1, hz2⟩ := info_parts info87
  obtain ⟨news, hnews⟩ : ∃ news, news = flatK b (left.drop j) := ⟨_, rfl⟩
  have hlen : news.length = (left.length - j) * 2 := by rw [hnews, flatK_len, List.length_drop]
  have hne : ¬ (i : Int) = (j : Int) := by omega
  have hneB : ((i : Int) == (j : Int)) = false := by simpa using hne
  have hjl : j ≤ left.length := by omega
  have hijI : (i : Int) ≤ (j : Int) := by omega
  have hjlI : (j : Int) ≤ (left.length : Int) := by omega
  by_cases hcap : j = 18
  · have hL : left.length = 18 := by have := hk.len; omega
    obtain rfl : i = 17 := by omega
    subst hcap
    rw [hL]
    have HKL := hid hk
    have HL := hid hL
    have TH1 := hid (show w.drew.there g 0 36 by simpa using hk.room)
    have mixed : Tryd.prog.follows Departure.mixedOrders = true := by kernel_rfl
    have hcl : ∀ ty, (Builtin.clear_ #[81] ty #[.slice (some ⟨g, 34, none⟩) 1 1]).run Tryd.prog w.drew = .ok (.tuple #[]) (w.drew.setCells g 34 [.string ⟨#[]⟩, .nilIface]) := fun ty => run_clear2 w.drew g 34 1 ty (fun t ht => by
      have := TH1.out (34 + t) (by omega)
      rw [show 0 + (34 + t) = 34 + t by omega] at this
      exact this)
    clear hk hnews hlen hne hneB hjl hijI hjlI hi hL hj
    go_enter Tryd.func34, Tryd.ntmps34
    go_wp2_with fail
    go_region_law_o (refine step_append_room rfl (.tmp 22) (.tmp 25) 81 rfl 87 i0 2 Tryd.underlying81 hi0 hz1 g 0 17 18 (by simp [Act.eval, Act.put]) ⟨g, 0, none⟩ 0 0 [] (by simp [Act.eval, Act.put]) rfl (by intro j u hu; simp at hu) (by simp) (by omega) (by intro j hj; simp at hj) ?_; rw [World.setCells])
    go_wp2
    go_ret
    refine ⟨rfl, ⟨?_, World.there_setCells TH1.out _ _ _, ?_, ?_⟩, ?_⟩
    · have e : left.eraseIdx 17 = left.take 17 := by
        rw [List.eraseIdx_eq_take_drop_succ, List.drop_eq_nil_of_le (by rw [HL.out]; decide), List.append_nil]
      rw [e]
      refine World.rangeAt_setCells_apart ?_ _ _ _ (.inr (.inl (by rw [flatK_len, List.length_take, HL.out]; decide)))
      intro t v hv
      refine HKL.out.row t v ?_
      have e2 : flatK b left = flatK b (left.take 17) ++ flatK b (left.drop 17) := by
        unfold flatK
        rw [← List.flatMap_append, List.take_append_drop]
      rw [e2, List.getElem?_append_left (List.getElem?_eq_some_iff.1 hv).1]
      exact hv
    · rw [size_setCells]
      exact HKL.out.lt
    · rw [List.length_eraseIdx, HL.out]
      decide
    · exact touch_setCells ((Touch.refl _ _).drew) _ _
  · have hcap2 : ¬ 18 = j := fun e => hcap e.symm
    have hsrc : Hid (∀ t u, news[t]? = some u → w.drew.cell? ((⟨g, j * 2, none⟩ : Addr).add t) = some u) := hid (by
      intro t u hu
      have ht := (List.getElem?_eq_some_iff.1 hu).1
      rw [hnews] at hu
      have e : flatK b left = flatK b (left.take j) ++ flatK b (left.drop j) := by
        unfold flatK
        rw [← List.flatMap_append, List.take_append_drop]
      have hl : (flatK b (left.take j)).length = j * 2 := by rw [flatK_len, List.length_take, Nat.min_eq_left hjl]
      have h2 := hk.row (j * 2 + t) u (by rw [e, List.getElem?_append_right (by omega), hl, show j * 2 + t - j * 2 = t by omega]; exact hu)
      rw [Addr.add_lit]
      rw [Nat.zero_add] at h2
      exact h2)

    have s1 : Hid (news.length = (left.length - j) * 2) := hid hlen
    have s2 : Hid (∀ u ∈ news, u.oneCell' = true) := hid (by rw [hnews]; exact flatK_one b _)
    have s3 : Hid (∀ t, t < news.length → (w.drew.cell? ⟨g, 0 + i * 2 + t, none⟩).isSome = true ∧ w.drew.frozen? ⟨g, 0 + i * 2 + t, none⟩ = false) := hid (by
      intro t ht
      have := hk.room (i * 2 + t) (by have := hk.len; omega)
      rw [show 0 + (i * 2 + t) = 0 + i * 2 + t by omega] at this
      exact this)
    have HKL := hid hk
    have hlen18 : left.length ≤ 18 := hk.len
    obtain ⟨W1, hW1⟩ : ∃ W1, W1 = w.drew.setCells g (0 + i * 2) news := ⟨_, rfl⟩
    have HW := hid hW1
    have TH1 := hid (show W1.there g 0 36 by rw [hW1]; exact World.there_setCells (by simpa using hk.room) _ _ _)
    have hn1 : i + (left.length - j) = left.length - 1 := by omega
    obtain ⟨m, hm⟩ : ∃ m, m = left.length - 1 := ⟨_, rfl⟩
    have hm1 : left.length - m = 1 := by omega
    have hcl : ∀ ty, (Builtin.clear_ #[81] ty #[.slice (some ⟨g, m * 2, none⟩) 1 (18 - m)]).run Tryd.prog W1 = .ok (.tuple #[]) (W1.setCells g (m * 2) [.string ⟨#[]⟩, .nilIface]) := fun ty => run_clear2 W1 g (m * 2) (18 - m) ty (fun t ht => by
      have := TH1.out (m * 2 + t) (by omega)
      rw [show 0 + (m * 2 + t) = m * 2 + t by omega] at this
      exact this)
    have hmj : i + (left.length - j) = m := by omega
    have hmI : (i : Int) + ((left.length : Int) - (j : Int)) = (m : Int) := by omega
    have HMJ := hid hm
    have HJ := hid hj
    have HNW := hid hnews
    clear hW1 hk hnews hlen hn1 hm hj
    have hicI : (i : Int) ≤ 18 := by omega
    have hjcI : (j : Int) ≤ 18 := by omega
    have hicN : i ≤ 18 := by omega
    have hjcN : j ≤ 18 := by omega
    have mixed : Tryd.prog.follows Departure.mixedOrders = true := by kernel_rfl
    go_enter Tryd.func34, Tryd.ntmps34
    go_wp2_with fail
    go_region_law_o (refine step_append_room rfl (.tmp 22) (.tmp 25) 81 rfl 87 i0 2 Tryd.underlying81 hi0 hz1 g 0 i 18 (by simp [Act.eval, Act.put]) ⟨g, j * 2, none⟩ (left.length - j) (18 - j) news (by simp [Act.eval, Act.put]) s1.out hsrc.out s2.out (by omega) s3.out ?_; rw [← HW.out])
    go_wp2
    go_ret
    refine ⟨by rw [← HMJ.out]; rfl, ?_, ?_⟩
    · have hm := HMJ.out
      have hj := HJ.out
      have hnews := HNW.out
      have hnl := s1.out
      have R1 : W1.rangeAt g 0 (flatK b (left.take i)) := by
        rw [HW.out]
        refine World.rangeAt_setCells_apart ?_ _ _ _ (.inr (.inl ?_))
        · intro t v hv
          refine HKL.out.row t v ?_
          have e : flatK b left = flatK b (left.take i) ++ flatK b (left.drop i) := by
            unfold flatK
            rw [← List.flatMap_append, List.take_append_drop]
          rw [e, List.getElem?_append_left (List.getElem?_eq_some_iff.1 hv).1]
          exact hv
        · rw [flatK_len, List.length_take]
          omega
      have R2 : W1.rangeAt g (i * 2) news := by
        rw [HW.out, show 0 + i * 2 = i * 2 by omega]
        refine World.rangeAt_setCells_same _ _ _ _ (fun t ht => ?_)
        have := s3.out t ht
        rw [show 0 + i * 2 + t = i * 2 + t by omega] at this
        exact this
      have R1b := World.rangeAt_setCells_apart R1 g (m * 2) [.string ⟨#[]⟩, .nilIface] (.inr (.inl (by rw [flatK_len, List.length_take]; omega)))
      have R2b := World.rangeAt_setCells_apart R2 g (m * 2) [.string ⟨#[]⟩, .nilIface] (.inr (.inl (by rw [hnl]; omega)))
      refine ⟨?_, World.there_setCells TH1.out _ _ _, ?_, ?_⟩
      · have e : flatK b (left.eraseIdx i) = flatK b (left.take i) ++ news := by
          rw [hnews, List.eraseIdx_eq_take_drop_succ, hj]
          unfold flatK
          rw [← List.flatMap_append]
        rw [e]
        intro t v hv
        have hl2 : (flatK b (left.take i)).length = i * 2 := by rw [flatK_len, List.length_take, Nat.min_eq_left (by omega)]
        by_cases ht : t < i * 2
        · rw [List.getElem?_append_left (by omega)] at hv
          exact R1b t v hv
        · rw [List.getElem?_append_right (by omega), hl2] at hv
          have := R2b _ v hv
          rw [show 0 + t = i * 2 + (t - i * 2) by omega]
          exact this
      · have h1 : W1.heap.size = w.heap.size := by rw [HW.out, size_setCells]; rfl
        rw [size_setCells, h1]
        exact HKL.out.lt
      · rw [List.length_eraseIdx]
        split <;> omega
    · refine touch_setCells ?_ _ _
      rw [HW.out]
      exact touch_setCells ((Touch.refl _ _).drew) _ _

end Go.Proofs.YtmeekjfnmdbnpaaDoor
