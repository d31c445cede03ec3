/- The document's parser of JSON: number; conditions: as told. -/
import Derived.Test.YtjpmjcadnnglnaaDoorQWa
import Derived.Deep.DeepCutAuto
namespace Go.Proofs.YtjpmjcadnnglnaaDoor
open Go.RowKit
open Go.Lib

theorem dgE_at {s : ByteArray} {t k : Nat} (h : dgE s t = .error k) : k = t := by
  unfold dgE at h
  split at h
  · cases h; rfl
  · cases h
/-- What number leaves. -/
def RNumR (s : ByteArray) (b t : Nat) (V : Value) (w : World) : Except Nat Nat → Ending → World → Prop
  | .ok u, e, w' => e = .returned (.string (s.extract t u)) ∧ Rr w' b s u V 0 0 ∧ Touch (fun k => k = b) w w'
  | .error k, e, w' => ∃ o u, e = .returned (.string o) ∧ u ≤ s.size ∧ Rr w' b s u V 20 k ∧ Touch (fun k => k = b) w w'
/-- On the way: all is well up to a place, or something is wrong. -/
def NSt (s : ByteArray) (b t : Nat) (V : Value) (w : World) : Except Nat Nat → World → Prop
  | .ok u, w' => t ≤ u ∧ u ≤ s.size ∧ Rr w' b s u V 0 0 ∧ Touch (fun k => k = b) w w'
  | .error k, w' => ∃ u, t ≤ u ∧ u ≤ s.size ∧ Rr w' b s u V 20 k ∧ Touch (fun k => k = b) w w'
def hv (s : ByteArray) : Except Nat Nat → Int
  | .ok u => lk s u
  | .error _ => -1
theorem NSt.new {s : ByteArray} {b t : Nat} {V : Value} {w w' w'' : World} {r : Except Nat Nat} (h : NSt s b t V w r w') (k : Touch (fun _ => False) w' w'') : NSt s b t V w r w'' := by
  match r, h with
  | .ok u, ⟨h1, h2, h3, h4⟩ => exact ⟨h1, h2, h3.new k, h4.trans k (fun _ _ e => e.elim)⟩
  | .error j, ⟨u, h1, h2, h3, h4⟩ => exact ⟨u, h1, h2, h3.new k, h4.trans k (fun _ _ e => e.elim)⟩
theorem here_any {s : ByteArray} {b t : Nat} {V : Value} {w w' : World} {r : Except Nat Nat} (h : NSt s b t V w r w') (hs : s.size ≤ 1048576) :
    Calls Tryd.prog 30 #[.pointer (some ⟨b, 0, none⟩)] w' fun e w'' => e = .returned (.int .i64 (hv s r)) ∧ NSt s b t V w r w'' := by
  match r, h with
  | .ok u, ⟨h1, h2, h3, h4⟩ => exact (here_good b s u V w' h3 (by omega) hs).mono (fun e w'' ⟨k1, k2⟩ => ⟨k1, h1, h2, h3.new k2, h4.trans k2 (fun _ _ e => e.elim)⟩)
  | .error j, ⟨u, h1, h2, h3, h4⟩ => exact (here_err b s u V 20 j w' h3 (by decide)).mono (fun e w'' ⟨k1, k2⟩ => ⟨k1, u, h1, h2, h3.new k2, h4.trans k2 (fun _ _ e => e.elim)⟩)
theorem run_any {s : ByteArray} {b t u : Nat} {V : Value} {w w' : World} (h1 : t ≤ u) (h2 : u ≤ s.size) (h3 : Rr w' b s u V 0 0) (h4 : Touch (fun k => k = b) w w') (hs : s.size ≤ 1048576) :
    Calls Tryd.prog 50 #[.pointer (some ⟨b, 0, none⟩)] w' fun e w'' => e = .returned (.tuple #[]) ∧ NSt s b t V w (dgE s u) w'' := by
  refine (run_good b s u V w' h3 hs h2).mono ?_
  intro e w'' hh
  cases hd : dgE s u with
  | ok v =>
    rw [hd] at hh
    have := dgE_fwd hd
    have := dgE_le h2 hd
    exact ⟨hh.1, by omega, by omega, hh.2.1, h4.trans hh.2.2 (fun _ _ e => e)⟩
  | error k =>
    rw [hd] at hh
    have := dgE_at hd
    subst this
    exact ⟨hh.1, _, h1, h2, hh.2.1, h4.trans hh.2.2 (fun _ _ e => e)⟩
def b2 (s : ByteArray) : Except Nat Nat → Except Nat Nat
  | .ok u => part2 s u
  | .error k => .error k
def b3 (s : ByteArray) : Except Nat Nat → Except Nat Nat
  | .ok u => part3 s u
  | .error k => .error k
theorem num_b (s : ByteArray) (t : Nat) : numE s t = b3 s (b2 s (part1 s t)) := by
  unfold numE b3 b2
  cases part1 s t with
  | error k => rfl
  | ok u =>
    simp only
    cases part2 s u <;> rfl
theorem NSt.fin {s : ByteArray} {b t : Nat} {V : Value} {w w' : World} {r : Except Nat Nat} (h : NSt s b t V w r w') : ∃ u, t ≤ u ∧ u ≤ s.size ∧ w'.cell? ⟨b, 0, none⟩ = some (.string s) ∧ w'.cell? ⟨b, 1, none⟩ = some (.int .i64 (u : Nat)) ∧ ∀ w'', Touch (fun _ => False) w' w'' → RNumR s b t V w r (.returned (.string (s.extract t u))) w'' := by
  match r, h with
  | .ok u, ⟨h1, h2, h3, h4⟩ => exact ⟨u, h1, h2, h3.c0, h3.c1, fun w'' k => ⟨rfl, h3.new k, h4.trans k (fun _ _ e => e.elim)⟩⟩
  | .error j, ⟨u, h1, h2, h3, h4⟩ => exact ⟨u, h1, h2, h3.c0, h3.c1, fun w'' k => ⟨_, u, rfl, h2, h3.new k, h4.trans k (fun _ _ e => e.elim)⟩⟩
set_option maxRecDepth 100000 in
set_option maxHeartbeats 16000000 in
theorem rnumber_good (b : Nat) (s : ByteArray) (t : Nat) (V : Value) (w : World) (h : Rr w b s t V 0 0) (hs : s.size ≤ 1048576) (ht : t ≤ s.size) :
    Calls Tryd.prog 35 #[.pointer (some ⟨b, 0, none⟩)] w fun e w' => RNumR s b t V w (numE s t) e w' := by
  have KH := hid (fun w' r (hp : NSt s b t V w r w') => here_any hp hs)
  have S0 := hid (show NSt s b t V w (.ok t) w from ⟨Nat.le_refl _, ht, h, Touch.refl _ _⟩)
  rw [num_b]
  obtain ⟨X, hX⟩ : ∃ X, X = b3 s (b2 s (part1 s t)) := ⟨_, rfl⟩
  have HX := hid hX.symm
  rw [← hX]
  have c1 := h.c1
  clear h hX
  go_enter Tryd.func35, Tryd.ntmps35
  go_wp2_with fail
  clear c1
  refine (KH.out _ _ S0.out).mono ?_
  rintro e w1 ⟨rfl, st⟩
  replace S0 := hid st
  clear st
  have hhv : hv s (.ok t) = lk s t := rfl
  rw [hhv]
  clear hhv
  go_upto_if 10 with fail
  go_cut [] (fun wd => NSt s b t V w (.ok (stp s t 45)) wd)
  case first =>
    obtain ⟨_, _, h3, h4⟩ := S0.out
    have H1 := hid h3
    have T1 := hid h4
    have c1 := h3.c1
    have f1 := h3.fr (i := 1)
    clear h3 h4 S0
    by_cases h45 : lk s t = 45
    · have hl := (lk_is (c := 45) h45).1
      rw [h45]
      go_wp2
      go_meet
      case rel =>
        unfold stp
        rw [if_pos (by rw [h45]; rfl)]
        exact ⟨by omega, by omega, H1.out.at' (t + 1), Touch.setCell (S := fun k => k = b) T1.out (p := ⟨b, 1, none⟩) (fun _ => rfl) _⟩
    · have nb : (lk s t == 45) = false := by simpa using h45
      rw [nb]
      go_wp2
      go_meet
      case rel =>
        unfold stp
        rw [if_neg (show ¬ lk s t = ((45 : Nat) : Int) from h45)]
        exact ⟨Nat.le_refl _, ht, H1.out, T1.out⟩
  have S1 := hid hcut
  clear hcut S0
  have hst := stp_le s t 45 ht
  have HP1 := hid (show part1 s t = if lk s (stp s t 45) = 48 then .ok (stp s t 45 + 1) else dgE s (stp s t 45) from rfl)
  generalize stp s t 45 = t1 at *
  go_wp2_with fail
  refine (KH.out _ _ S1.out).mono ?_
  rintro e w2 ⟨rfl, st⟩
  replace S1 := hid st
  clear st
  have hhv : hv s (.ok t1) = lk s t1 := rfl
  rw [hhv]
  clear hhv
  go_upto_if 20 with fail
  go_cut [] (fun wd => NSt s b t V w (part1 s t) wd)
  case first =>
    obtain ⟨_, _, h3, h4⟩ := S1.out
    have H1 := hid h3
    have T1 := hid h4
    have c1 := h3.c1
    have f1 := h3.fr (i := 1)
    have KR := hid (run_any hst.1 hst.2 h3 h4 hs)
    clear h3 h4 S1
    by_cases h48 : lk s t1 = 48
    · have hl := (lk_is (c := 48) h48).1
      rw [h48]
      go_wp2
      go_meet
      case rel =>
        rw [HP1.out, if_pos h48]
        exact ⟨by omega, by omega, H1.out.at' (t1 + 1), Touch.setCell (S := fun k => k = b) T1.out (p := ⟨b, 1, none⟩) (fun _ => rfl) _⟩
    · have nb : (lk s t1 == 48) = false := by simpa using h48
      rw [nb]
      go_wp2_with fail
      refine KR.out.mono ?_
      rintro e w3 ⟨rfl, st⟩
      have S2 := hid st
      clear st KR
      go_wp2
      go_meet
      case rel =>
        rw [HP1.out, if_neg h48]
        exact S2.out
  have S2 := hid hcut
  clear hcut S1 HP1 hst
  generalize part1 s t = r1 at *
  go_wp2_with fail
  refine (KH.out _ _ S2.out).mono ?_
  rintro e w3 ⟨rfl, st⟩
  replace S2 := hid st
  clear st
  go_upto_if 32 with fail
  go_cut [] (fun wd => NSt s b t V w (b2 s r1) wd)
  case first =>
    by_cases h46 : hv s r1 = 46
    · rw [h46]
      match r1, S2, h46 with
      | .error k, _, h46 => cases h46
      | .ok u, S2, h46 =>
        obtain ⟨hu1, hu2, h3, h4⟩ := S2.out
        have h46' : lk s u = 46 := h46
        have hl := (lk_is (c := 46) h46').1
        have H1 := hid h3
        have T1 := hid h4
        have c1 := h3.c1
        have f1 := h3.fr (i := 1)
        have HB := hid (show b2 s (.ok u) = dgE s (u + 1) from if_pos h46')
        clear h3 h4 S2 h46 h46'
        go_wp2_with fail
        have KR := hid (run_any (t := t) (u := u + 1) (by omega) (by omega) (H1.out.at' (u + 1)) (Touch.setCell (S := fun k => k = b) T1.out (p := ⟨b, 1, none⟩) (fun _ => rfl) _) hs)
        refine KR.out.mono ?_
        rintro e w4 ⟨rfl, st⟩
        have S3 := hid st
        clear st KR
        go_wp2
        go_meet
        case rel =>
          rw [HB.out]
          exact S3.out
    · have nb : (hv s r1 == 46) = false := by simpa using h46
      rw [nb]
      have HB := hid (show b2 s r1 = r1 from by
        match r1, h46 with
        | .error k, _ => rfl
        | .ok u, h46 => exact if_neg h46)
      go_wp2
      go_meet
      case rel =>
        rw [HB.out]
        exact S2.out
  have S3 := hid hcut
  clear hcut S2
  generalize b2 s r1 = r2 at *
  by_cases h101 : hv s r2 = 101
  · match r2, S3, h101 with
    | .error k, _, h101 => cases h101
    | .ok u, S3, h101 =>
      have h101' : lk s u = 101 := h101
      have hl := (lk_is (c := 101) h101').1
      have HB := hid (show b3 s (.ok u) = dgE s (sgn s (u + 1)) from if_pos h101')
      clear h101
      go_wp2_with fail
      refine (KH.out _ _ S3.out).mono ?_
      rintro e w4 ⟨rfl, st⟩
      obtain ⟨hu1, hu2, h3, h4⟩ := st
      have H1 := hid h3
      have T1 := hid h4
      clear h3 h4 S3
      rw [show hv s (.ok u) = lk s u from rfl, h101']
      by_cases h43 : lk s (u + 1) = 43
      · have hl43 := (lk_is (c := 43) h43).1
        have c1 := H1.out.c1
        have f1 := H1.out.fr (i := 1)
        have S4 := hid (show NSt s b t V w (.ok (u + 1)) (w4.setCell ⟨b, 1, none⟩ (.int .i64 ((u : Int) + 1))) from ⟨by omega, by omega, H1.out.at' (u + 1), Touch.setCell (S := fun k => k = b) T1.out (p := ⟨b, 1, none⟩) (fun _ => rfl) _⟩)
        go_wp2_with fail
        refine (KH.out _ _ S4.out).mono ?_
        rintro e w5 ⟨rfl, st⟩
        replace S4 := hid st
        clear st c1 f1
        rw [show hv s (.ok (u + 1)) = lk s (u + 1) from rfl]
        rw [h43]
        obtain ⟨q1, q2, q3, q4⟩ := S4.out
        have c1 := q3.c1
        have f1 := q3.fr (i := 1)
        have KR := hid (run_any (t := t) (u := u + 1 + 1) (by omega) (by omega) (q3.at' (u + 1 + 1)) (Touch.setCell (S := fun k => k = b) q4 (p := ⟨b, 1, none⟩) (fun _ => rfl) _) hs)
        clear q1 q2 q3 q4 S4
        go_wp2_with fail
        refine KR.out.mono ?_
        rintro e w7 ⟨rfl, st⟩
        have S5 := hid st
        clear st KR
        have HSG : sgn s (u + 1) = u + 1 + 1 := if_pos h43
        have HSH := hid HSG
        clear HSG
        obtain ⟨u9, g1, g2, c0, c1, HF⟩ := S5.out.fin
        have hfI : (t : Int) ≤ (u9 : Int) := by omega
        have hlI : (u9 : Int) ≤ (s.size : Int) := by omega
        have HFF := hid HF
        clear HF S5
        go_wp2_with fail
        go_quiet (fail)
        go_wp2
        go_ret
        rw [← HX.out, HB.out, HSH.out]
        exact HFF.out _ ((Touch.refl (fun _ => False) _).drewN _)
      · by_cases h45 : lk s (u + 1) = 45
        · have hl45 := (lk_is (c := 45) h45).1
          have c1 := H1.out.c1
          have f1 := H1.out.fr (i := 1)
          have S4 := hid (show NSt s b t V w (.ok (u + 1)) (w4.setCell ⟨b, 1, none⟩ (.int .i64 ((u : Int) + 1))) from ⟨by omega, by omega, H1.out.at' (u + 1), Touch.setCell (S := fun k => k = b) T1.out (p := ⟨b, 1, none⟩) (fun _ => rfl) _⟩)
          go_wp2_with fail
          refine (KH.out _ _ S4.out).mono ?_
          rintro e w5 ⟨rfl, st⟩
          replace S4 := hid st
          clear st c1 f1
          rw [show hv s (.ok (u + 1)) = lk s (u + 1) from rfl]
          have nb43 : (lk s (u + 1) == 43) = false := by simpa using h43
          generalize hy : lk s (u + 1) = y at *
          go_wp2_with fail
          refine (KH.out _ _ S4.out).mono ?_
          rintro e w6 ⟨rfl, st⟩
          replace S4 := hid st
          clear st
          rw [show hv s (.ok (u + 1)) = lk s (u + 1) from rfl, hy]
          rw [h45]
          obtain ⟨q1, q2, q3, q4⟩ := S4.out
          have c1 := q3.c1
          have f1 := q3.fr (i := 1)
          have KR := hid (run_any (t := t) (u := u + 1 + 1) (by omega) (by omega) (q3.at' (u + 1 + 1)) (Touch.setCell (S := fun k => k = b) q4 (p := ⟨b, 1, none⟩) (fun _ => rfl) _) hs)
          clear q1 q2 q3 q4 S4
          go_wp2_with fail
          refine KR.out.mono ?_
          rintro e w7 ⟨rfl, st⟩
          have S5 := hid st
          clear st KR
          have HSG : sgn s (u + 1) = u + 1 + 1 := by unfold sgn stp; rw [hy, if_neg h43, if_pos (by rw [h45]; rfl)]
          have HSH := hid HSG
          clear HSG
          obtain ⟨u9, g1, g2, c0, c1, HF⟩ := S5.out.fin
          have hfI : (t : Int) ≤ (u9 : Int) := by omega
          have hlI : (u9 : Int) ≤ (s.size : Int) := by omega
          have HFF := hid HF
          clear HF S5
          go_wp2_with fail
          go_quiet (fail)
          go_wp2
          go_ret
          rw [← HX.out, HB.out, HSH.out]
          exact HFF.out _ ((Touch.refl (fun _ => False) _).drewN _)
        · skip
          have c1 := H1.out.c1
          have f1 := H1.out.fr (i := 1)
          have S4 := hid (show NSt s b t V w (.ok (u + 1)) (w4.setCell ⟨b, 1, none⟩ (.int .i64 ((u : Int) + 1))) from ⟨by omega, by omega, H1.out.at' (u + 1), Touch.setCell (S := fun k => k = b) T1.out (p := ⟨b, 1, none⟩) (fun _ => rfl) _⟩)
          go_wp2_with fail
          refine (KH.out _ _ S4.out).mono ?_
          rintro e w5 ⟨rfl, st⟩
          replace S4 := hid st
          clear st c1 f1
          rw [show hv s (.ok (u + 1)) = lk s (u + 1) from rfl]
          have nb43 : (lk s (u + 1) == 43) = false := by simpa using h43
          generalize hy : lk s (u + 1) = y at *
          go_wp2_with fail
          refine (KH.out _ _ S4.out).mono ?_
          rintro e w6 ⟨rfl, st⟩
          replace S4 := hid st
          clear st
          rw [show hv s (.ok (u + 1)) = lk s (u + 1) from rfl, hy]
          have nb45 : (y == 45) = false := by simpa using h45
          obtain ⟨q1, q2, q3, q4⟩ := S4.out
          have KR := hid (run_any (t := t) (u := u + 1) (by omega) (by omega) q3 q4 hs)
          clear q1 q2 q3 q4 S4
          go_wp2_with fail
          refine KR.out.mono ?_
          rintro e w7 ⟨rfl, st⟩
          have S5 := hid st
          clear st KR
          have HSG : sgn s (u + 1) = u + 1 := by unfold sgn stp; rw [hy, if_neg h43, if_neg (show ¬ y = ((45 : Nat) : Int) from h45)]
          have HSH := hid HSG
          clear HSG
          obtain ⟨u9, g1, g2, c0, c1, HF⟩ := S5.out.fin
          have hfI : (t : Int) ≤ (u9 : Int) := by omega
          have hlI : (u9 : Int) ≤ (s.size : Int) := by omega
          have HFF := hid HF
          clear HF S5
          go_wp2_with fail
          go_quiet (fail)
          go_wp2
          go_ret
          rw [← HX.out, HB.out, HSH.out]
          exact HFF.out _ ((Touch.refl (fun _ => False) _).drewN _)
  · by_cases h69 : hv s r2 = 69
    · match r2, S3, h101, h69 with
      | .error k, _, _, h69 => cases h69
      | .ok u, S3, h101, h69 =>
        have h69' : lk s u = 69 := h69
        have hl := (lk_is (c := 69) h69').1
        have HB := hid (show b3 s (.ok u) = dgE s (sgn s (u + 1)) from (if_neg h101).trans (if_pos h69'))
        clear h69
        go_wp2_with fail
        refine (KH.out _ _ S3.out).mono ?_
        rintro e w3b ⟨rfl, st⟩
        replace S3 := hid st
        clear st
        rw [show hv s (.ok u) = lk s u from rfl, h69']
        go_wp2_with fail
        refine (KH.out _ _ S3.out).mono ?_
        rintro e w4 ⟨rfl, st⟩
        obtain ⟨hu1, hu2, h3, h4⟩ := st
        have H1 := hid h3
        have T1 := hid h4
        clear h3 h4 S3
        rw [show hv s (.ok u) = lk s u from rfl, h69']
        by_cases h43 : lk s (u + 1) = 43
        · have hl43 := (lk_is (c := 43) h43).1
          have c1 := H1.out.c1
          have f1 := H1.out.fr (i := 1)
          have S4 := hid (show NSt s b t V w (.ok (u + 1)) (w4.setCell ⟨b, 1, none⟩ (.int .i64 ((u : Int) + 1))) from ⟨by omega, by omega, H1.out.at' (u + 1), Touch.setCell (S := fun k => k = b) T1.out (p := ⟨b, 1, none⟩) (fun _ => rfl) _⟩)
          go_wp2_with fail
          refine (KH.out _ _ S4.out).mono ?_
          rintro e w5 ⟨rfl, st⟩
          replace S4 := hid st
          clear st c1 f1
          rw [show hv s (.ok (u + 1)) = lk s (u + 1) from rfl]
          rw [h43]
          obtain ⟨q1, q2, q3, q4⟩ := S4.out
          have c1 := q3.c1
          have f1 := q3.fr (i := 1)
          have KR := hid (run_any (t := t) (u := u + 1 + 1) (by omega) (by omega) (q3.at' (u + 1 + 1)) (Touch.setCell (S := fun k => k = b) q4 (p := ⟨b, 1, none⟩) (fun _ => rfl) _) hs)
          clear q1 q2 q3 q4 S4
          go_wp2_with fail
          refine KR.out.mono ?_
          rintro e w7 ⟨rfl, st⟩
          have S5 := hid st
          clear st KR
          have HSG : sgn s (u + 1) = u + 1 + 1 := if_pos h43
          have HSH := hid HSG
          clear HSG
          obtain ⟨u9, g1, g2, c0, c1, HF⟩ := S5.out.fin
          have hfI : (t : Int) ≤ (u9 : Int) := by omega
          have hlI : (u9 : Int) ≤ (s.size : Int) := by omega
          have HFF := hid HF
          clear HF S5
          go_wp2_with fail
          go_quiet (fail)
          go_wp2
          go_ret
          rw [← HX.out, HB.out, HSH.out]
          exact HFF.out _ ((Touch.refl (fun _ => False) _).drewN _)
        · by_cases h45 : lk s (u + 1) = 45
          · have hl45 := (lk_is (c := 45) h45).1
            have c1 := H1.out.c1
            have f1 := H1.out.fr (i := 1)
            have S4 := hid (show NSt s b t V w (.ok (u + 1)) (w4.setCell ⟨b, 1, none⟩ (.int .i64 ((u : Int) + 1))) from ⟨by omega, by omega, H1.out.at' (u + 1), Touch.setCell (S := fun k => k = b) T1.out (p := ⟨b, 1, none⟩) (fun _ => rfl) _⟩)
            go_wp2_with fail
            refine (KH.out _ _ S4.out).mono ?_
            rintro e w5 ⟨rfl, st⟩
            replace S4 := hid st
            clear st c1 f1
            rw [show hv s (.ok (u + 1)) = lk s (u + 1) from rfl]
            have nb43 : (lk s (u + 1) == 43) = false := by simpa using h43
            generalize hy : lk s (u + 1) = y at *
            go_wp2_with fail
            refine (KH.out _ _ S4.out).mono ?_
            rintro e w6 ⟨rfl, st⟩
            replace S4 := hid st
            clear st
            rw [show hv s (.ok (u + 1)) = lk s (u + 1) from rfl, hy]
            rw [h45]
            obtain ⟨q1, q2, q3, q4⟩ := S4.out
            have c1 := q3.c1
            have f1 := q3.fr (i := 1)
            have KR := hid (run_any (t := t) (u := u + 1 + 1) (by omega) (by omega) (q3.at' (u + 1 + 1)) (Touch.setCell (S := fun k => k = b) q4 (p := ⟨b, 1, none⟩) (fun _ => rfl) _) hs)
            clear q1 q2 q3 q4 S4
            go_wp2_with fail
            refine KR.out.mono ?_
            rintro e w7 ⟨rfl, st⟩
            have S5 := hid st
            clear st KR
            have HSG : sgn s (u + 1) = u + 1 + 1 := by unfold sgn stp; rw [hy, if_neg h43, if_pos (by rw [h45]; rfl)]
            have HSH := hid HSG
            clear HSG
            obtain ⟨u9, g1, g2, c0, c1, HF⟩ := S5.out.fin
            have hfI : (t : Int) ≤ (u9 : Int) := by omega
            have hlI : (u9 : Int) ≤ (s.size : Int) := by omega
            have HFF := hid HF
            clear HF S5
            go_wp2_with fail
            go_quiet (fail)
            go_wp2
            go_ret
            rw [← HX.out, HB.out, HSH.out]
            exact HFF.out _ ((Touch.refl (fun _ => False) _).drewN _)
          · skip
            have c1 := H1.out.c1
            have f1 := H1.out.fr (i := 1)
            have S4 := hid (show NSt s b t V w (.ok (u + 1)) (w4.setCell ⟨b, 1, none⟩ (.int .i64 ((u : Int) + 1))) from ⟨by omega, by omega, H1.out.at' (u + 1), Touch.setCell (S := fun k => k = b) T1.out (p := ⟨b, 1, none⟩) (fun _ => rfl) _⟩)
            go_wp2_with fail
            refine (KH.out _ _ S4.out).mono ?_
            rintro e w5 ⟨rfl, st⟩
            replace S4 := hid st
            clear st c1 f1
            rw [show hv s (.ok (u + 1)) = lk s (u + 1) from rfl]
            have nb43 : (lk s (u + 1) == 43) = false := by simpa using h43
            generalize hy : lk s (u + 1) = y at *
            go_wp2_with fail
            refine (KH.out _ _ S4.out).mono ?_
            rintro e w6 ⟨rfl, st⟩
            replace S4 := hid st
            clear st
            rw [show hv s (.ok (u + 1)) = lk s (u + 1) from rfl, hy]
            have nb45 : (y == 45) = false := by simpa using h45
            obtain ⟨q1, q2, q3, q4⟩ := S4.out
            have KR := hid (run_any (t := t) (u := u + 1) (by omega) (by omega) q3 q4 hs)
            clear q1 q2 q3 q4 S4
            go_wp2_with fail
            refine KR.out.mono ?_
            rintro e w7 ⟨rfl, st⟩
            have S5 := hid st
            clear st KR
            have HSG : sgn s (u + 1) = u + 1 := by unfold sgn stp; rw [hy, if_neg h43, if_neg (show ¬ y = ((45 : Nat) : Int) from h45)]
            have HSH := hid HSG
            clear HSG
            obtain ⟨u9, g1, g2, c0, c1, HF⟩ := S5.out.fin
            have hfI : (t : Int) ≤ (u9 : Int) := by omega
            have hlI : (u9 : Int) ≤ (s.size : Int) := by omega
            have HFF := hid HF
            clear HF S5
            go_wp2_with fail
            go_quiet (fail)
            go_wp2
            go_ret
            rw [← HX.out, HB.out, HSH.out]
            exact HFF.out _ ((Touch.refl (fun _ => False) _).drewN _)
    · have n101 : (hv s r2 == 101) = false := by simpa using h101
      have n69 : (hv s r2 == 69) = false := by simpa using h69
      have HB := hid (show b3 s r2 = r2 from by
        match r2, h101, h69 with
        | .error k, _, _ => rfl
        | .ok u, h101, h69 => exact (if_neg h101).trans (if_neg h69))
      go_wp2_with fail
      refine (KH.out _ _ S3.out).mono ?_
      rintro e w3b ⟨rfl, st⟩
      replace S3 := hid st
      clear st
      go_wp2_with fail
      refine (KH.out _ _ S3.out).mono ?_
      rintro e w4 ⟨rfl, st⟩
      replace S3 := hid st
      clear st
      obtain ⟨u9, g1, g2, c0, c1, HF⟩ := S3.out.fin
      have hfI : (t : Int) ≤ (u9 : Int) := by omega
      have hlI : (u9 : Int) ≤ (s.size : Int) := by omega
      have HFF := hid HF
      clear HF S3
      go_wp2_with fail
      go_quiet (fail)
      go_wp2
      go_ret
      rw [← HX.out, HB.out]
      exact HFF.out _ ((Touch.refl (fun _ => False) _).drewN _)
end Go.Proofs.YtjpmjcadnnglnaaDoor
