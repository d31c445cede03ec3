/- Texts of this proof, one behind the other: what each says stands ahead of it. -/
import Derived.Test.YtnngemdpoemhgaaDoorM10
import Derived.Test.YtnngemdpoemhgaaDoorM12
import Derived.Test.YtnngemdpoemhgaaDoorM0
import Derived.ProofKit
import Derived.Deep.Slices
import Derived.Lib.SmallJoins
/- UcdCloses, the walk; conditions: the two tables lie there, the list fits into memory. -/
namespace Go.Proofs.YtnngemdpoemhgaaDoor
open Go.RowKit

theorem Ow.cap2 {W0 wr : World} {ty : TypeId} {n cap : Nat} {a : Option Addr} {s : List R2} (h : Ow W0 wr ty (.slice a n cap) s) : s.length ≤ cap := by
  rcases h.own.2 with ⟨_, h0⟩ | ⟨g, cap', cur, hv, _, _, hle, _⟩
  · omega
  · simp only [Value.slice.injEq] at hv
    omega
/-- The document's Orbit of any number, and what it tells of a closed set. -/
theorem docOrbit_any (r : Int) (w : World) : Calls Tryd.prog 11 #[.int .i64 r] w fun e w' => ∃ v L, e = .returned v ∧ OwI w w' v L ∧ L.length ≤ 3 ∧ ∀ s c, Canon c → (∀ x, In x c ↔ Clo s x) → hasB r c = L.any (fun y => hasB y s) := by
  rcases orb_out r with hr | hr
  · refine (docOrbit_all r w hr).mono ?_
    rintro e w' ⟨v, rfl, ow⟩
    refine ⟨v, _, rfl, ow, (orb_facts r hr).few, fun s c _ h => hasB_eq ?_⟩
    rw [h, clo_iff s r hr, List.any_eq_true]
    simp only [hasB_iff]
  · refine (docOrbit_out r w hr).mono ?_
    rintro e w' ⟨rfl, rfl⟩
    refine ⟨_, [], rfl, OwI.nil w, by simp, fun s c hc _ => hasB_eq ?_⟩
    simp only [List.any_nil, Bool.false_eq_true, iff_false]
    rintro ⟨q, hq, h1, h2⟩
    have := hc.in_ q hq
    unfold inB at this
    omega

set_option maxRecDepth 100000 in
set_option maxHeartbeats 8000000 in
theorem ucdCloses_walk (a1 : Option Addr) (c1 : Nat) (l : List R2) (r : Int) (w : World) (ht : Tabs w) (hl : Rg w a1 l) (hb : l.length * 16 ≤ 140737488351232) :
    Calls Tryd.prog 8 #[.slice a1 l.length c1, .int .i64 r] w fun e w' => e = .returned (.bool true) ∧ Touch (fun _ => False) w w' := by
  obtain ⟨i0, hi33, hz0, hz1, hz2⟩ := info_parts info33
  have HT := hid ht
  have HL := hid hl
  clear hl ht
  go_enter Tryd.func8, Tryd.ntmps8
  go_wp2_with fail
  refine (speaks_yes w HT.out).mono ?_
  rintro e w1 ⟨rfl, tc⟩
  have T := hid tc
  clear tc
  go_wp2_with fail
  go_loopg [5, 6] l.length (fun gk v i wq => ∃ k : Nat, k + gk = l.length ∧ i = .int .i64 (k : Nat) ∧ OwE w1 wq 33 v (l.take k))
  case atStart => exact ⟨0, by omega, rfl, OwE.nil _ _⟩
  case round =>
    obtain ⟨k, hk, rfl, h4⟩ := hrel
    have O4 := hid h4
    have HLR := hid (HL.out.new (T.out.trans h4.touch (fun _ _ e => e)))
    obtain ⟨a4, c4, hv4⟩ := own_shape h4.own
    subst hv4
    clear h4
    have htl : (l.take k).length = k := by rw [List.length_take]; omega
    rw [htl] at O4 ⊢
    by_cases hlt : k < l.length
    · obtain ⟨b, o, ha, hbl, hcell⟩ : ∃ b o, a1 = some ⟨b, o, none⟩ ∧ b < wr.heap.size ∧ ∀ i (h : i < l.length), wr.cell? ⟨b, o + i * 2, none⟩ = some (.int .i64 (l[i]).1) ∧ wr.cell? ⟨b, o + i * 2 + 1, none⟩ = some (.int .i64 (l[i]).2) := by
        rcases HLR.out with h | h
        · rw [h] at hlt; simp at hlt
        · exact h
      subst ha
      obtain ⟨d0, d1⟩ := hcell k hlt
      obtain ⟨q, hq⟩ : ∃ q, q = l[k] := ⟨_, rfl⟩
      have HTK := hid (show l.take (k + 1) = l.take k ++ [q] from by rw [hq, List.take_succ_eq_append_getElem hlt])
      rw [← hq] at d0 d1
      obtain ⟨x, y⟩ := q
      dsimp only at d0 d1
      clear hcell hq htl HLR
      obtain ⟨s, hs⟩ : ∃ s, s = l.take k := ⟨_, rfl⟩
      have hsl : s.length ≤ k := by rw [hs, List.length_take]; omega
      rw [← hs] at O4 HTK
      clear hs
      go_wp2_with (at_builtin; refine wpList_append_own_at _ rfl _ _ 26 rfl 0 33 i0 (.agg #[.int .i64 0, .int .i64 0]) 2 16 Tryd.underlying26 hi33 hz0 hz1 hz2 rfl (by decide) _ _ _ rfl (O4.out.own.alloc _) ⟨wr.heap.size, 0, none⟩ 1 1 [.int .i64 x, .int .i64 y] rfl rfl (row_new wr [.int .i64 x, .int .i64 y] 33) (by intro u hu; simp at hu; rcases hu with rfl | rfl <;> rfl) (by unfold maxLen; omega) (by omega) (Nat.zero_le _) ?_)
      intro v4' w4 hown hgrow _ hat
      have P4 := hid (O4.out.more (xs := [(x, y)]) hown hgrow hat)
      clear hown hgrow hat d0 d1
      go_wp2
      go_roundg (gk - 1)
      case measure => omega
      case rel =>
        refine ⟨k + 1, by omega, by go_num, ?_⟩
        rw [HTK.out]
        exact P4.out
    · obtain rfl : k = l.length := by omega
      rw [List.take_length] at O4
      obtain ⟨a5, c5, hv5, hrg⟩ := O4.out.rg
      simp only [Value.slice.injEq] at hv5
      obtain ⟨rfl, _, rfl⟩ := hv5
      have RA := hid hrg
      replace T := hid (T.out.trans O4.out.touch (fun _ _ e => e))
      clear hrg O4 HLR htl hlt hk HL
      go_wp2_with fail
      refine (of_says _ _ l _ RA.out hb).mono ?_
      rintro e v1w ⟨v, s, rfl, hcn, hin, ow⟩
      obtain ⟨a_s, c_s, hv, hrg⟩ := own_rg ow.own
      subst hv
      have CP_s := hid ow.cap2
      have C_s := hid hcn
      have I_s := hid hin
      replace RA := hid (RA.out.new ow.touch)
      replace T := hid (T.out.trans ow.touch (fun _ _ e => e))
      have Rs := hid hrg
      clear ow hcn hin hrg
      clear RA
      go_wp2_with fail
      refine (close_any a_s c_s s _ (HT.out.new T.out) Rs.out C_s.out).mono ?_
      rintro e v2w ⟨v, c, rfl, hcn, hin, ow⟩
      obtain ⟨a_c, c_c, hv, hrg⟩ := own_rg ow.own
      subst hv
      have CP_c := hid ow.cap
      have C_c := hid hcn
      have I_c := hid hin
      replace Rs := hid (Rs.out.new ow.touch)
      replace T := hid (T.out.trans ow.touch (fun _ _ e => e))
      have Rc := hid hrg
      clear ow hcn hin hrg
      go_wp2_with fail
      refine (docOrbit_any r _).mono ?_
      rintro e wo ⟨v, O, rfl, owo, hO3, hOW⟩
      have OO := hid owo
      have HW := hid (hOW s c C_c.out I_c.out)
      obtain ⟨ao, co, hvo⟩ := own_shape owo.own
      subst hvo
      replace Rs := hid (Rs.out.new owo.touch)
      replace Rc := hid (Rc.out.new owo.touch)
      replace T := hid (T.out.trans owo.touch (fun _ _ e => e))
      clear owo hOW
      go_wp2_with fail
      go_loopg [9, 11] O.length (fun gk v i wq => ∃ k : Nat, k + gk = O.length ∧ i = .int .i64 (k : Nat) ∧ v = .bool ((O.take k).any (fun y => hasB y s)) ∧ Touch (fun _ => False) wo wq)
      case atStart => exact ⟨0, by omega, rfl, by simp, Touch.refl _ _⟩
      case round =>
        obtain ⟨k, hk, rfl, rfl, htc⟩ := hrel
        have TC := hid htc
        clear htc
        by_cases hlt : k < O.length
        · obtain ⟨hin, _, _⟩ := OO.out.in
          obtain ⟨b, rfl, _, hcl⟩ : Ig wr ao O := by
            rcases hin with ⟨e, _⟩ | h
            · rw [e] at hlt; simp at hlt
            · exact h.new TC.out
          have d0 := hcl k hlt
          have HST := hid (show (O.take (k + 1)).any (fun y => hasB y s) = ((O.take k).any (fun y => hasB y s) || hasB O[k] s) by rw [List.take_succ_eq_append_getElem hlt, List.any_append]; simp)
          obtain ⟨x, hx⟩ : ∃ x, O[k] = x := ⟨_, rfl⟩
          rw [hx] at d0 HST
          have KH := hid (has_says a_s c_s s x wr (Rs.out.new TC.out) C_s.out)
          obtain ⟨X, hX⟩ : ∃ X, hasB x s = X := ⟨_, rfl⟩
          rw [hX] at KH HST
          obtain ⟨W, hW⟩ : ∃ W, (O.take k).any (fun y => hasB y s) = W := ⟨_, rfl⟩
          rw [hW] at HST ⊢
          have hkI : (k : Int) < (O.length : Int) := by omega
          clear hcl hin hx hX hW
          cases W
          · go_wp2_with fail
            refine KH.out.mono ?_
            rintro e w6 ⟨rfl, tq⟩
            have T6 := hid (TC.out.trans tq (fun _ _ e => e))
            have HS2 := hid (show (O.take (k + 1)).any (fun y => hasB y s) = X by rw [HST.out]; rfl)
            clear tq KH HST
            go_wp2_with fail
            go_roundg (gk - 1)
            case measure => omega
            case rel => exact ⟨k + 1, by omega, by go_num, by rw [HS2.out], T6.out⟩
          · have HS2 := hid (show (O.take (k + 1)).any (fun y => hasB y s) = true by rw [HST.out]; rfl)
            clear HST KH
            go_wp2_with fail
            go_roundg (gk - 1)
            case measure => omega
            case rel => exact ⟨k + 1, by omega, by go_num, by rw [HS2.out], TC.out⟩
        · obtain rfl : k = O.length := by omega
          rw [List.take_length, ← HW.out]
          clear hlt hk
          replace Rs := hid (Rs.out.new TC.out)
          replace Rc := hid (Rc.out.new TC.out)
          replace T := hid (T.out.trans TC.out (fun _ _ e => e))
          clear TC OO HW
          have KH := hid (has_says a_c c_c c r _ Rc.out C_c.out)
          obtain ⟨B, hB⟩ : ∃ B, hasB r c = B := ⟨_, rfl⟩
          rw [hB] at KH ⊢
          clear hB
          cases B
          all_goals
            go_wp2_with fail
            refine (KH.out).mono ?_
            rintro e v3w ⟨rfl, tq⟩
            replace Rs := hid (Rs.out.new tq)
            replace Rc := hid (Rc.out.new tq)
            replace T := hid (T.out.trans tq (fun _ _ e => e))
            clear tq
            clear KH
            go_wp2_with fail
            refine (close_any a_c c_c c _ (HT.out.new T.out) Rc.out C_c.out).mono ?_
            rintro e v4w ⟨v, d, rfl, hcn, hin, ow⟩
            obtain ⟨a_d, c_d, hv, hrg⟩ := own_rg ow.own
            subst hv
            have CP_d := hid ow.cap
            have C_d := hid hcn
            have I_d := hid hin
            replace Rs := hid (Rs.out.new ow.touch)
            replace Rc := hid (Rc.out.new ow.touch)
            replace T := hid (T.out.trans ow.touch (fun _ _ e => e))
            have Rd := hid hrg
            clear ow hcn hin hrg
            obtain rfl : c = d := canon_one C_c.out C_d.out (fun q => by
              rw [I_d.out q]
              exact (clo_clo C_c.out I_c.out q).symm)
            go_wp2_with fail
            refine (same_yes a_d a_c c_d c_c c _ Rd.out Rc.out (by have := canon_len C_c.out; omega)).mono ?_
            rintro e v5w ⟨rfl, tq⟩
            replace Rs := hid (Rs.out.new tq)
            replace Rc := hid (Rc.out.new tq)
            replace Rd := hid (Rd.out.new tq)
            replace T := hid (T.out.trans tq (fun _ _ e => e))
            clear tq
            clear Rd I_d C_d CP_d
            go_wp2_with fail
            refine (and_says a_c a_s c_c c_s c s _ Rc.out Rs.out CP_c.out CP_s.out C_c.out C_s.out).mono ?_
            rintro e v6w ⟨v, n, rfl, hcn, hin, ow⟩
            obtain ⟨a_n, c_n, hv, hrg⟩ := own_rg ow.own
            subst hv
            have CP_n := hid ow.cap
            have C_n := hid hcn
            have I_n := hid hin
            replace Rs := hid (Rs.out.new ow.touch)
            replace Rc := hid (Rc.out.new ow.touch)
            replace T := hid (T.out.trans ow.touch (fun _ _ e => e))
            have Rn := hid hrg
            clear ow hcn hin hrg
            obtain rfl : s = n := canon_one C_s.out C_n.out (fun q => by
              rw [I_n.out q, I_c.out q]
              exact ⟨fun h => ⟨.inl h, h⟩, fun h => h.2⟩)
            go_wp2_with fail
            refine (same_yes a_n a_s c_n c_s s _ Rn.out Rs.out (by have := canon_len C_s.out; omega)).mono ?_
            rintro e v7w ⟨rfl, tq⟩
            replace Rs := hid (Rs.out.new tq)
            replace Rc := hid (Rc.out.new tq)
            replace Rn := hid (Rn.out.new tq)
            replace T := hid (T.out.trans tq (fun _ _ e => e))
            clear tq
            clear Rn I_n C_n CP_n
            have hsz := clo_size C_s.out C_c.out I_c.out
            have hp1 := sizeL_pos C_s.out
            have hp2 := sizeL_pos C_c.out
            have K1 := hid (fun wq (h : Rg wq a_c c) => size_says a_c c_c c wq h C_c.out)
            have K2 := hid (fun wq (h : Rg wq a_s s) => size_says a_s c_s s wq h C_s.out)
            generalize sizeL c = nc at *
            generalize sizeL s = ns at *
            have hd : decide (nc ≤ 3 * ns) = true := decide_eq_true hsz
            go_wp2_with fail
            refine (K1.out _ Rc.out).mono ?_
            rintro e v8w ⟨rfl, tq⟩
            replace Rs := hid (Rs.out.new tq)
            replace Rc := hid (Rc.out.new tq)
            replace T := hid (T.out.trans tq (fun _ _ e => e))
            clear tq
            clear K1
            go_wp2_with fail
            refine (K2.out _ Rs.out).mono ?_
            rintro e v9w ⟨rfl, tq⟩
            replace Rs := hid (Rs.out.new tq)
            replace Rc := hid (Rc.out.new tq)
            replace T := hid (T.out.trans tq (fun _ _ e => e))
            clear tq
            clear K2
            go_wp2
            go_ret
            exact ⟨by simp, T.out⟩
end Go.Proofs.YtnngemdpoemhgaaDoor

/- A list of ranges that came in, opened; no condition. -/
namespace Go.Proofs.YtnngemdpoemhgaaDoor
open Go.ChangeShapes Go.WideShapes Go.ChangeAt Go.RowKit Go.Deep Go.Joins

theorem cells43 : Tryd.prog.cellsOf 43 = 2 := by kernel_rfl
theorem cells3 : Tryd.prog.cellsOf 3 = 1 := by kernel_rfl
theorem two_of {l : List Value} (h : l.length = 2) : ∃ a b, l = [a, b] := by
  match l, h with
  | [a, b], _ => exact ⟨a, b, rfl⟩

def rangeD {H : Type} (q : R2) : DataW H := .agg [.lit (.int .i64 q.1), .lit (.int .i64 q.2)]

theorem open_ranges {H : Type} {enc : TypeId × Value → H} {W : World} {a : Option Addr} {len cap : Nat} {d : DataW H} {p : List MemPlace}
    (h : DataW.Trod enc Tryd.prog W 0 (fun _ => true) true 42 (.slice a len cap) d p) :
    (a = none ∧ len = 0 ∧ cap = 0 ∧ d = .nil) ∨ ∃ (x : Addr) (q : Nat → R2) (sp : List (DataW H)), a = some x ∧ len ≤ cap ∧ sp.length = cap - len ∧
      d = .slice ((List.range len).map fun i => rangeD (q i)) sp ∧
      ∀ i, i < len → W.cell? (x.add (i * 2)) = some (.int .i64 (q i).1) ∧ W.cell? (x.add (i * 2 + 1)) = some (.int .i64 (q i).2) := by
  obtain ⟨fuel, hf⟩ := h
  rcases open_slice Tryd.underlying42 hf with ⟨hcs, hx⟩ | ⟨x, l, c, m, n, D, Pl, hcs, _, hl, _, hmm, hx, hel⟩
  · simp [Value.cells] at hcs
    obtain ⟨rfl, rfl, rfl⟩ := hcs
    simp only [Prod.mk.injEq] at hx
    exact .inl ⟨rfl, rfl, rfl, hx.1⟩
  · simp [Value.cells] at hcs
    obtain ⟨rfl, rfl, rfl⟩ := hcs
    simp only [Prod.mk.injEq] at hx
    have each : ∀ i, i < len → ∃ q : R2, D i = rangeD q ∧ W.cell? (x.add (i * 2)) = some (.int .i64 q.1) ∧ W.cell? (x.add (i * 2 + 1)) = some (.int .i64 q.2) := by
      intro i hi
      obtain ⟨cs', h1, h2⟩ := hel i (by rw [hmm]; simp; omega)
      rw [cells43] at h1
      obtain ⟨_, hlen, hcell⟩ := World.cells?_some h1
      obtain ⟨y0, y1, k, hy, _, g0, g1⟩ := trod_struct2 Tryd.underlying43 h2
      obtain ⟨v0, v1, rfl⟩ := two_of hlen
      have e0 := hcell 0 (by omega)
      have e1 := hcell 1 (by omega)
      rw [add_add] at e0 e1
      simp only [cells3, List.drop_zero, List.drop_succ_cons, List.take_succ_cons, List.take_zero] at g0 g1
      obtain ⟨a, ha, ya, _⟩ := DataW.trod_int Tryd.underlying3 g0
      obtain ⟨n', hn, yn, _⟩ := DataW.trod_int Tryd.underlying3 g1
      simp only [List.cons.injEq, and_true] at ha hn
      subst ha hn ya yn
      simp only [Prod.mk.injEq] at hy
      exact ⟨(a, n'), hy.1, by simpa using e0, by simpa using e1⟩
    obtain ⟨q, hq⟩ := choose_lt each
    refine .inr ⟨x, q, (List.range (m - len)).map fun j => D (len + j), rfl, hl, ?_, ?_, fun i hi => (hq i hi).2⟩
    · simp [hmm]
    · rw [hx.1]
      congr 1
      apply List.map_congr_left
      intro i hi
      exact (hq i (by simpa using hi)).1

theorem rg_of {w : World} {x : Addr} {len : Nat} {q : Nat → R2} (h : ∀ i, i < len → w.cell? (x.add (i * 2)) = some (.int .i64 (q i).1) ∧ w.cell? (x.add (i * 2 + 1)) = some (.int .i64 (q i).2)) :
    Rg w (some x) ((List.range len).map q) := by
  by_cases h0 : len = 0
  · subst h0
    exact .inl rfl
  · obtain ⟨b, off, spot⟩ := x
    have hspot : spot = none := by simpa [Addr.add] using World.cell?_spot (h 0 (by omega)).1
    subst hspot
    have e : ∀ j, (⟨b, off, none⟩ : Addr).add j = ⟨b, off + j, none⟩ := by intro j; unfold Addr.add; split <;> simp_all
    refine .inr ⟨b, off, rfl, ?_, fun i hi => ?_⟩
    · have hb := World.block_lt_of_cell? w _ (h 0 (by omega)).1
      rw [e] at hb
      exact hb
    · have hi' : i < len := by simpa using hi
      have := h i hi'
      simp only [e] at this
      simpa [Nat.add_assoc] using this
end Go.Proofs.YtnngemdpoemhgaaDoor
