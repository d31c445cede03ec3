/- A parser of JSON: numbers; condition: the text has at most 1048576 bytes. -/
import Derived.Test.YtjpmjcadnnglnaaDoorM1
namespace Go.Proofs.YtjpmjcadnnglnaaDoor
open Go.RowKit

/-- Digits from a place on: the place behind them, or that there are none. -/
def dgE (s : ByteArray) (t : Nat) : Except Nat Nat := if dgn (s.data.toList.drop t) = 0 then .error t else .ok (t + dgn (s.data.toList.drop t))
def stp (s : ByteArray) (t : Nat) (c : Nat) : Nat := if lk s t = (c : Int) then t + 1 else t
def part1 (s : ByteArray) (t : Nat) : Except Nat Nat := if lk s (stp s t 45) = 48 then .ok (stp s t 45 + 1) else dgE s (stp s t 45)
def part2 (s : ByteArray) (t : Nat) : Except Nat Nat := if lk s t = 46 then dgE s (t + 1) else .ok t
def sgn (s : ByteArray) (t : Nat) : Nat := if lk s t = 43 then t + 1 else stp s t 45
def part3 (s : ByteArray) (t : Nat) : Except Nat Nat := if lk s t = 101 then dgE s (sgn s (t + 1)) else if lk s t = 69 then dgE s (sgn s (t + 1)) else .ok t
/-- The end of a number that begins at a place, or the place at which it goes on as none. -/
def numE (s : ByteArray) (t : Nat) : Except Nat Nat := match part1 s t with
  | .error k => .error k
  | .ok t2 => match part2 s t2 with
    | .error k => .error k
    | .ok t3 => part3 s t3
theorem lk_lt {s : ByteArray} {t : Nat} {c : Nat} (h : lk s t = (c : Int)) : t < s.size := by
  rcases Nat.lt_or_ge t s.size with h1 | h1
  · exact h1
  · unfold lk at h
    rw [List.getElem?_eq_none (by rw [size_list]; exact h1)] at h
    simp only at h
    omega
theorem stp_le (s : ByteArray) (t c : Nat) (h : t ≤ s.size) : t ≤ stp s t c ∧ stp s t c ≤ s.size := by
  unfold stp
  split
  · rename_i e
    have := lk_lt e
    omega
  · omega
theorem dgn_at (s : ByteArray) (t : Nat) (h : t ≤ s.size) : t + dgn (s.data.toList.drop t) ≤ s.size := by
  have := dgn_le (s.data.toList.drop t)
  rw [List.length_drop, size_list] at this
  omega
theorem take_stp (b : Nat) (s : ByteArray) (t d c : Nat) (w : World) (h : Ps w b s t d) (hs : s.size ≤ 1048576) (ht : t ≤ s.size) (hc : c < 256) :
    Calls Tryd.prog 55 #[.pointer (some ⟨b, 0, none⟩), .int .u8 (c : Nat)] w fun e w' => e = .returned (.bool (decide (lk s t = (c : Int)))) ∧ Ps w' b s (stp s t c) d ∧ Touch (fun k => k = b) w w' :=
  take_any b s t d c w h hs ht hc
/-- What number answers. -/
def NumR (s : ByteArray) (b t d : Nat) (w : World) : Except Nat Nat → Ending → World → Prop
  | .ok u, e, w' => e = .returned (.string (s.extract t u)) ∧ Ps w' b s u d ∧ Touch (fun k => k = b) w w'
  | .error k, e, w' => e = thrown 20 k ∧ Ps w' b s k d ∧ Touch (fun k => k = b) w w'
set_option maxRecDepth 100000 in
set_option maxHeartbeats 16000000 in
theorem number_any (b : Nat) (s : ByteArray) (t d : Nat) (w : World) (h : Ps w b s t d) (hs : s.size ≤ 1048576) (ht : t ≤ s.size) :
    Calls Tryd.prog 60 #[.pointer (some ⟨b, 0, none⟩)] w fun e w' => NumR s b t d w (numE s t) e w' := by
  obtain ⟨X, hX⟩ : ∃ X, X = numE s t := ⟨_, rfl⟩
  have HX := hid hX
  rw [← hX]
  clear hX
  unfold numE part1 at HX
  have HP := hid h
  have TW := hid (Touch.refl (fun k => k = b) w)
  have KT := hid (fun (c : Nat) (hc : c < 256) (w : World) (t : Nat) (h : Ps w b s t d) (ht : t ≤ s.size) => take_stp b s t d c w h hs ht hc)
  have KG := hid (fun (w : World) (t : Nat) (h : Ps w b s t d) (ht : t ≤ s.size) => digits_any b s t d w h hs ht)
  have c1 := h.c1
  clear h
  have h1 := stp_le s t 45 ht
  go_enter Tryd.func60, Tryd.ntmps60
  go_wp2_with fail
  clear c1
  refine ((KT.out 45 (by decide)) _ t HP.out ht).mono ?_
  rintro e w1 ⟨rfl, hp, tt⟩
  replace HP := hid hp
  replace TW := hid (TW.out.trans tt (fun _ _ e => e))
  clear hp tt
  generalize stp s t 45 = t1 at *
  generalize decide (lk s t = 45) = b45 at *
  by_cases h48 : lk s t1 = 48
  · rw [if_pos h48] at HX
    have hlt := lk_lt (c := 48) h48
    go_wp2_with fail
    refine ((KT.out 48 (by decide)) _ t1 HP.out (by omega)).mono ?_
    rintro e w2 ⟨rfl, hp, tt⟩
    have e1 : stp s t1 48 = t1 + 1 := if_pos h48
    rw [e1] at hp
    rw [decide_eq_true (show lk s t1 = ((48 : Nat) : Int) from h48)]
    replace HP := hid hp
    replace TW := hid (TW.out.trans tt (fun _ _ e => e))
    clear hp tt e1 h48
    try dsimp only at HX
    have h2 : t ≤ t1 + 1 ∧ t1 + 1 ≤ s.size := by omega
    clear h1 hlt
    generalize t1 + 1 = t2 at *
    unfold part2 at HX
    by_cases h46 : lk s t2 = 46
    · rw [if_pos h46] at HX
      have hlt := lk_lt (c := 46) h46
      go_wp2_with fail
      refine ((KT.out 46 (by decide)) _ t2 HP.out (by omega)).mono ?_
      rintro e w11 ⟨rfl, hp, tt⟩
      have e1 : stp s t2 46 = t2 + 1 := if_pos h46
      rw [e1] at hp
      rw [decide_eq_true (show lk s t2 = ((46 : Nat) : Int) from h46)]
      replace HP := hid hp
      replace TW := hid (TW.out.trans tt (fun _ _ e => e))
      clear hp tt e1
      have hp1 : t ≤ t2 + 1 ∧ t2 + 1 ≤ s.size := by omega
      clear h46 hlt
      generalize t2 + 1 = pt2 at *
      unfold dgE at HX
      have hdl := dgn_at s pt2 (by omega)
      have KD := hid (KG.out _ pt2 HP.out (by omega))
      by_cases hz : dgn (s.data.toList.drop pt2) = 0
      · rw [if_pos hz] at HX
        rw [hz, show digitsE 0 pt2 = .panicked [{ v := .iface 39 (.agg #[.int .i64 ((20 : Nat) : Int), .int .i64 (pt2 : Nat)]), recovered := false }] from rfl] at KD
        clear hdl hz KT KG HP
        go_wp2_with fail
        refine KD.out.mono ?_
        rintro e w12 ⟨rfl, hp, tt⟩
        have HE := hid hp
        have TE := hid (TW.out.trans tt (fun _ _ e => e))
        clear hp tt KD TW
        go_wp2
        refine ⟨rfl, ?_⟩
        rw [HX.out]
        exact ⟨rfl, HE.out, TE.out⟩
      · rw [if_neg hz] at HX
        rw [show digitsE (dgn (s.data.toList.drop pt2)) pt2 = .returned (.tuple #[]) from if_neg hz] at KD
        go_wp2_with fail
        refine KD.out.mono ?_
        rintro e w13 ⟨rfl, hp, tt⟩
        replace HP := hid hp
        replace TW := hid (TW.out.trans tt (fun _ _ e => e))
        have hg2 : t ≤ pt2 + dgn (s.data.toList.drop pt2) := by omega
        clear hp tt KD hz
        generalize pt2 + dgn (s.data.toList.drop pt2) = qt2 at *
        unfold part3 at HX
        by_cases h101 : lk s qt2 = 101
        · rw [if_pos h101] at HX
          have hlt := lk_lt (c := 101) h101
          go_wp2_with fail
          refine ((KT.out 101 (by decide)) _ qt2 HP.out (by omega)).mono ?_
          rintro e w14 ⟨rfl, hp, tt⟩
          have e1 : stp s qt2 101 = qt2 + 1 := if_pos h101
          rw [e1] at hp
          rw [decide_eq_true (show lk s qt2 = ((101 : Nat) : Int) from h101)]
          replace HP := hid hp
          replace TW := hid (TW.out.trans tt (fun _ _ e => e))
          clear hp tt e1
          clear h101
          have hvqt2 : t ≤ qt2 + 1 ∧ qt2 + 1 ≤ s.size := by omega
          generalize qt2 + 1 = vqt2 at *
          unfold sgn at HX
          by_cases h43 : lk s vqt2 = 43
          · rw [if_pos h43] at HX
            have hlt := lk_lt (c := 43) h43
            go_wp2_with fail
            refine ((KT.out 43 (by decide)) _ vqt2 HP.out (by omega)).mono ?_
            rintro e w15 ⟨rfl, hp, tt⟩
            have e1 : stp s vqt2 43 = vqt2 + 1 := if_pos h43
            rw [e1] at hp
            rw [decide_eq_true (show lk s vqt2 = ((43 : Nat) : Int) from h43)]
            replace HP := hid hp
            replace TW := hid (TW.out.trans tt (fun _ _ e => e))
            clear hp tt e1
            have hy : t ≤ vqt2 + 1 ∧ vqt2 + 1 ≤ s.size := by omega
            clear h43 hlt
            generalize vqt2 + 1 = yvqt2 at *
            unfold dgE at HX
            have hdl := dgn_at s yvqt2 (by omega)
            have KD := hid (KG.out _ yvqt2 HP.out (by omega))
            by_cases hz : dgn (s.data.toList.drop yvqt2) = 0
            · rw [if_pos hz] at HX
              rw [hz, show digitsE 0 yvqt2 = .panicked [{ v := .iface 39 (.agg #[.int .i64 ((20 : Nat) : Int), .int .i64 (yvqt2 : Nat)]), recovered := false }] from rfl] at KD
              clear hdl hz KT KG HP
              go_wp2_with fail
              refine KD.out.mono ?_
              rintro e w16 ⟨rfl, hp, tt⟩
              have HE := hid hp
              have TE := hid (TW.out.trans tt (fun _ _ e => e))
              clear hp tt KD TW
              go_wp2
              refine ⟨rfl, ?_⟩
              rw [HX.out]
              exact ⟨rfl, HE.out, TE.out⟩
            · rw [if_neg hz] at HX
              rw [show digitsE (dgn (s.data.toList.drop yvqt2)) yvqt2 = .returned (.tuple #[]) from if_neg hz] at KD
              go_wp2_with fail
              refine KD.out.mono ?_
              rintro e w17 ⟨rfl, hp, tt⟩
              replace HP := hid hp
              replace TW := hid (TW.out.trans tt (fun _ _ e => e))
              have hg2 : t ≤ yvqt2 + dgn (s.data.toList.drop yvqt2) := by omega
              clear hp tt KD hz
              generalize yvqt2 + dgn (s.data.toList.drop yvqt2) = zyvqt2 at *
              have c0 := HP.out.c0
              have c1 := HP.out.c1
              have hu1 : (t : Int) ≤ (zyvqt2 : Int) := by omega
              have hu2 : (zyvqt2 : Int) ≤ (s.size : Int) := by omega
              clear KT KG
              go_wp2_with fail
              go_quiet (fail)
              go_wp2
              go_ret
              rw [HX.out]
              exact ⟨rfl, HP.out.new ((Touch.refl _ _).drewN _), TW.out.drewN _⟩
          · rw [if_neg h43] at HX
            have hst := stp_le s vqt2 45 (by omega)
            go_wp2_with fail
            refine ((KT.out 43 (by decide)) _ vqt2 HP.out (by omega)).mono ?_
            rintro e w18 ⟨rfl, hp, tt⟩
            have e1 : stp s vqt2 43 = vqt2 := if_neg h43
            rw [e1] at hp
            rw [decide_eq_false (show ¬ lk s vqt2 = ((43 : Nat) : Int) from h43)]
            replace HP := hid hp
            replace TW := hid (TW.out.trans tt (fun _ _ e => e))
            clear hp tt e1
            go_wp2_with fail
            refine ((KT.out 45 (by decide)) _ vqt2 HP.out (by omega)).mono ?_
            rintro e w19 ⟨rfl, hp, tt⟩
            replace HP := hid hp
            replace TW := hid (TW.out.trans tt (fun _ _ e => e))
            clear hp tt
            clear h43
            generalize decide (lk s vqt2 = ((45 : Nat) : Int)) = bq at *
            have hy : t ≤ stp s vqt2 45 ∧ stp s vqt2 45 ≤ s.size := by omega
            clear hst
            generalize stp s vqt2 45 = yvqt2 at *
            unfold dgE at HX
            have hdl := dgn_at s yvqt2 (by omega)
            have KD := hid (KG.out _ yvqt2 HP.out (by omega))
            by_cases hz : dgn (s.data.toList.drop yvqt2) = 0
            · rw [if_pos hz] at HX
              rw [hz, show digitsE 0 yvqt2 = .panicked [{ v := .iface 39 (.agg #[.int .i64 ((20 : Nat) : Int), .int .i64 (yvqt2 : Nat)]), recovered := false }] from rfl] at KD
              clear hdl hz KT KG HP
              go_wp2_with fail
              refine KD.out.mono ?_
              rintro e w20 ⟨rfl, hp, tt⟩
              have HE := hid hp
              have TE := hid (TW.out.trans tt (fun _ _ e => e))
              clear hp tt KD TW
              go_wp2
              refine ⟨rfl, ?_⟩
              rw [HX.out]
              exact ⟨rfl, HE.out, TE.out⟩
            · rw [if_neg hz] at HX
              rw [show digitsE (dgn (s.data.toList.drop yvqt2)) yvqt2 = .returned (.tuple #[]) from if_neg hz] at KD
              go_wp2_with fail
              refine KD.out.mono ?_
              rintro e w21 ⟨rfl, hp, tt⟩
              replace HP := hid hp
              replace TW := hid (TW.out.trans tt (fun _ _ e => e))
              have hg2 : t ≤ yvqt2 + dgn (s.data.toList.drop yvqt2) := by omega
              clear hp tt KD hz
              generalize yvqt2 + dgn (s.data.toList.drop yvqt2) = zyvqt2 at *
              have c0 := HP.out.c0
              have c1 := HP.out.c1
              have hu1 : (t : Int) ≤ (zyvqt2 : Int) := by omega
              have hu2 : (zyvqt2 : Int) ≤ (s.size : Int) := by omega
              clear KT KG
              go_wp2_with fail
              go_quiet (fail)
              go_wp2
              go_ret
              rw [HX.out]
              exact ⟨rfl, HP.out.new ((Touch.refl _ _).drewN _), TW.out.drewN _⟩
        · rw [if_neg h101] at HX
          by_cases h69 : lk s qt2 = 69
          · rw [if_pos h69] at HX
            have hlt := lk_lt (c := 69) h69
            go_wp2_with fail
            refine ((KT.out 101 (by decide)) _ qt2 HP.out (by omega)).mono ?_
            rintro e w22 ⟨rfl, hp, tt⟩
            have e1 : stp s qt2 101 = qt2 := if_neg h101
            rw [e1] at hp
            rw [decide_eq_false (show ¬ lk s qt2 = ((101 : Nat) : Int) from h101)]
            replace HP := hid hp
            replace TW := hid (TW.out.trans tt (fun _ _ e => e))
            clear hp tt e1
            go_wp2_with fail
            refine ((KT.out 69 (by decide)) _ qt2 HP.out (by omega)).mono ?_
            rintro e w23 ⟨rfl, hp, tt⟩
            have e1 : stp s qt2 69 = qt2 + 1 := if_pos h69
            rw [e1] at hp
            rw [decide_eq_true (show lk s qt2 = ((69 : Nat) : Int) from h69)]
            replace HP := hid hp
            replace TW := hid (TW.out.trans tt (fun _ _ e => e))
            clear hp tt e1
            clear h101 h69
            have hvqt2 : t ≤ qt2 + 1 ∧ qt2 + 1 ≤ s.size := by omega
            generalize qt2 + 1 = vqt2 at *
            unfold sgn at HX
            by_cases h43 : lk s vqt2 = 43
            · rw [if_pos h43] at HX
              have hlt := lk_lt (c := 43) h43
              go_wp2_with fail
              refine ((KT.out 43 (by decide)) _ vqt2 HP.out (by omega)).mono ?_
              rintro e w24 ⟨rfl, hp, tt⟩
              have e1 : stp s vqt2 43 = vqt2 + 1 := if_pos h43
              rw [e1] at hp
              rw [decide_eq_true (show lk s vqt2 = ((43 : Nat) : Int) from h43)]
              replace HP := hid hp
              replace TW := hid (TW.out.trans tt (fun _ _ e => e))
              clear hp tt e1
              have hy : t ≤ vqt2 + 1 ∧ vqt2 + 1 ≤ s.size := by omega
              clear h43 hlt
              generalize vqt2 + 1 = yvqt2 at *
              unfold dgE at HX
              have hdl := dgn_at s yvqt2 (by omega)
              have KD := hid (KG.out _ yvqt2 HP.out (by omega))
              by_cases hz : dgn (s.data.toList.drop yvqt2) = 0
              · rw [if_pos hz] at HX
                rw [hz, show digitsE 0 yvqt2 = .panicked [{ v := .iface 39 (.agg #[.int .i64 ((20 : Nat) : Int), .int .i64 (yvqt2 : Nat)]), recovered := false }] from rfl] at KD
                clear hdl hz KT KG HP
                go_wp2_with fail
                refine KD.out.mono ?_
                rintro e w25 ⟨rfl, hp, tt⟩
                have HE := hid hp
                have TE := hid (TW.out.trans tt (fun _ _ e => e))
                clear hp tt KD TW
                go_wp2
                refine ⟨rfl, ?_⟩
                rw [HX.out]
                exact ⟨rfl, HE.out, TE.out⟩
              · rw [if_neg hz] at HX
                rw [show digitsE (dgn (s.data.toList.drop yvqt2)) yvqt2 = .returned (.tuple #[]) from if_neg hz] at KD
                go_wp2_with fail
                refine KD.out.mono ?_
                rintro e w26 ⟨rfl, hp, tt⟩
                replace HP := hid hp
                replace TW := hid (TW.out.trans tt (fun _ _ e => e))
                have hg2 : t ≤ yvqt2 + dgn (s.data.toList.drop yvqt2) := by omega
                clear hp tt KD hz
                generalize yvqt2 + dgn (s.data.toList.drop yvqt2) = zyvqt2 at *
                have c0 := HP.out.c0
                have c1 := HP.out.c1
                have hu1 : (t : Int) ≤ (zyvqt2 : Int) := by omega
                have hu2 : (zyvqt2 : Int) ≤ (s.size : Int) := by omega
                clear KT KG
                go_wp2_with fail
                go_quiet (fail)
                go_wp2
                go_ret
                rw [HX.out]
                exact ⟨rfl, HP.out.new ((Touch.refl _ _).drewN _), TW.out.drewN _⟩
            · rw [if_neg h43] at HX
              have hst := stp_le s vqt2 45 (by omega)
              go_wp2_with fail
              refine ((KT.out 43 (by decide)) _ vqt2 HP.out (by omega)).mono ?_
              rintro e w27 ⟨rfl, hp, tt⟩
              have e1 : stp s vqt2 43 = vqt2 := if_neg h43
              rw [e1] at hp
              rw [decide_eq_false (show ¬ lk s vqt2 = ((43 : Nat) : Int) from h43)]
              replace HP := hid hp
              replace TW := hid (TW.out.trans tt (fun _ _ e => e))
              clear hp tt e1
              go_wp2_with fail
              refine ((KT.out 45 (by decide)) _ vqt2 HP.out (by omega)).mono ?_
              rintro e w28 ⟨rfl, hp, tt⟩
              replace HP := hid hp
              replace TW := hid (TW.out.trans tt (fun _ _ e => e))
              clear hp tt
              clear h43
              generalize decide (lk s vqt2 = ((45 : Nat) : Int)) = bq at *
              have hy : t ≤ stp s vqt2 45 ∧ stp s vqt2 45 ≤ s.size := by omega
              clear hst
              generalize stp s vqt2 45 = yvqt2 at *
              unfold dgE at HX
              have hdl := dgn_at s yvqt2 (by omega)
              have KD := hid (KG.out _ yvqt2 HP.out (by omega))
              by_cases hz : dgn (s.data.toList.drop yvqt2) = 0
              · rw [if_pos hz] at HX
                rw [hz, show digitsE 0 yvqt2 = .panicked [{ v := .iface 39 (.agg #[.int .i64 ((20 : Nat) : Int), .int .i64 (yvqt2 : Nat)]), recovered := false }] from rfl] at KD
                clear hdl hz KT KG HP
                go_wp2_with fail
                refine KD.out.mono ?_
                rintro e w29 ⟨rfl, hp, tt⟩
                have HE := hid hp
                have TE := hid (TW.out.trans tt (fun _ _ e => e))
                clear hp tt KD TW
                go_wp2
                refine ⟨rfl, ?_⟩
                rw [HX.out]
                exact ⟨rfl, HE.out, TE.out⟩
              · rw [if_neg hz] at HX
                rw [show digitsE (dgn (s.data.toList.drop yvqt2)) yvqt2 = .returned (.tuple #[]) from if_neg hz] at KD
                go_wp2_with fail
                refine KD.out.mono ?_
                rintro e w30 ⟨rfl, hp, tt⟩
                replace HP := hid hp
                replace TW := hid (TW.out.trans tt (fun _ _ e => e))
                have hg2 : t ≤ yvqt2 + dgn (s.data.toList.drop yvqt2) := by omega
                clear hp tt KD hz
                generalize yvqt2 + dgn (s.data.toList.drop yvqt2) = zyvqt2 at *
                have c0 := HP.out.c0
                have c1 := HP.out.c1
                have hu1 : (t : Int) ≤ (zyvqt2 : Int) := by omega
                have hu2 : (zyvqt2 : Int) ≤ (s.size : Int) := by omega
                clear KT KG
                go_wp2_with fail
                go_quiet (fail)
                go_wp2
                go_ret
                rw [HX.out]
                exact ⟨rfl, HP.out.new ((Touch.refl _ _).drewN _), TW.out.drewN _⟩
          · rw [if_neg h69] at HX
            go_wp2_with fail
            refine ((KT.out 101 (by decide)) _ qt2 HP.out (by omega)).mono ?_
            rintro e w31 ⟨rfl, hp, tt⟩
            have e1 : stp s qt2 101 = qt2 := if_neg h101
            rw [e1] at hp
            rw [decide_eq_false (show ¬ lk s qt2 = ((101 : Nat) : Int) from h101)]
            replace HP := hid hp
            replace TW := hid (TW.out.trans tt (fun _ _ e => e))
            clear hp tt e1
            go_wp2_with fail
            refine ((KT.out 69 (by decide)) _ qt2 HP.out (by omega)).mono ?_
            rintro e w32 ⟨rfl, hp, tt⟩
            have e1 : stp s qt2 69 = qt2 := if_neg h69
            rw [e1] at hp
            rw [decide_eq_false (show ¬ lk s qt2 = ((69 : Nat) : Int) from h69)]
            replace HP := hid hp
            replace TW := hid (TW.out.trans tt (fun _ _ e => e))
            clear hp tt e1
            clear h101 h69
            have c0 := HP.out.c0
            have c1 := HP.out.c1
            have hu1 : (t : Int) ≤ (qt2 : Int) := by omega
            have hu2 : (qt2 : Int) ≤ (s.size : Int) := by omega
            clear KT KG
            go_wp2_with fail
            go_quiet (fail)
            go_wp2
            go_ret
            rw [HX.out]
            exact ⟨rfl, HP.out.new ((Touch.refl _ _).drewN _), TW.out.drewN _⟩
    · rw [if_neg h46] at HX
      go_wp2_with fail
      refine ((KT.out 46 (by decide)) _ t2 HP.out (by omega)).mono ?_
      rintro e w33 ⟨rfl, hp, tt⟩
      have e1 : stp s t2 46 = t2 := if_neg h46
      rw [e1] at hp
      rw [decide_eq_false (show ¬ lk s t2 = ((46 : Nat) : Int) from h46)]
      replace HP := hid hp
      replace TW := hid (TW.out.trans tt (fun _ _ e => e))
      clear hp tt e1
      clear h46
      unfold part3 at HX
      by_cases h101 : lk s t2 = 101
      · rw [if_pos h101] at HX
        have hlt := lk_lt (c := 101) h101
        go_wp2_with fail
        refine ((KT.out 101 (by decide)) _ t2 HP.out (by omega)).mono ?_
        rintro e w34 ⟨rfl, hp, tt⟩
        have e1 : stp s t2 101 = t2 + 1 := if_pos h101
        rw [e1] at hp
        rw [decide_eq_true (show lk s t2 = ((101 : Nat) : Int) from h101)]
        replace HP := hid hp
        replace TW := hid (TW.out.trans tt (fun _ _ e => e))
        clear hp tt e1
        clear h101
        have hvt2 : t ≤ t2 + 1 ∧ t2 + 1 ≤ s.size := by omega
        generalize t2 + 1 = vt2 at *
        unfold sgn at HX
        by_cases h43 : lk s vt2 = 43
        · rw [if_pos h43] at HX
          have hlt := lk_lt (c := 43) h43
          go_wp2_with fail
          refine ((KT.out 43 (by decide)) _ vt2 HP.out (by omega)).mono ?_
          rintro e w35 ⟨rfl, hp, tt⟩
          have e1 : stp s vt2 43 = vt2 + 1 := if_pos h43
          rw [e1] at hp
          rw [decide_eq_true (show lk s vt2 = ((43 : Nat) : Int) from h43)]
          replace HP := hid hp
          replace TW := hid (TW.out.trans tt (fun _ _ e => e))
          clear hp tt e1
          have hy : t ≤ vt2 + 1 ∧ vt2 + 1 ≤ s.size := by omega
          clear h43 hlt
          generalize vt2 + 1 = yvt2 at *
          unfold dgE at HX
          have hdl := dgn_at s yvt2 (by omega)
          have KD := hid (KG.out _ yvt2 HP.out (by omega))
          by_cases hz : dgn (s.data.toList.drop yvt2) = 0
          · rw [if_pos hz] at HX
            rw [hz, show digitsE 0 yvt2 = .panicked [{ v := .iface 39 (.agg #[.int .i64 ((20 : Nat) : Int), .int .i64 (yvt2 : Nat)]), recovered := false }] from rfl] at KD
            clear hdl hz KT KG HP
            go_wp2_with fail
            refine KD.out.mono ?_
            rintro e w36 ⟨rfl, hp, tt⟩
            have HE := hid hp
            have TE := hid (TW.out.trans tt (fun _ _ e => e))
            clear hp tt KD TW
            go_wp2
            refine ⟨rfl, ?_⟩
            rw [HX.out]
            exact ⟨rfl, HE.out, TE.out⟩
          · rw [if_neg hz] at HX
            rw [show digitsE (dgn (s.data.toList.drop yvt2)) yvt2 = .returned (.tuple #[]) from if_neg hz] at KD
            go_wp2_with fail
            refine KD.out.mono ?_
            rintro e w37 ⟨rfl, hp, tt⟩
            replace HP := hid hp
            replace TW := hid (TW.out.trans tt (fun _ _ e => e))
            have hg2 : t ≤ yvt2 + dgn (s.data.toList.drop yvt2) := by omega
            clear hp tt KD hz
            generalize yvt2 + dgn (s.data.toList.drop yvt2) = zyvt2 at *
            have c0 := HP.out.c0
            have c1 := HP.out.c1
            have hu1 : (t : Int) ≤ (zyvt2 : Int) := by omega
            have hu2 : (zyvt2 : Int) ≤ (s.size : Int) := by omega
            clear KT KG
            go_wp2_with fail
            go_quiet (fail)
            go_wp2
            go_ret
            rw [HX.out]
            exact ⟨rfl, HP.out.new ((Touch.refl _ _).drewN _), TW.out.drewN _⟩
        · rw [if_neg h43] at HX
          have hst := stp_le s vt2 45 (by omega)
          go_wp2_with fail
          refine ((KT.out 43 (by decide)) _ vt2 HP.out (by omega)).mono ?_
          rintro e w38 ⟨rfl, hp, tt⟩
          have e1 : stp s vt2 43 = vt2 := if_neg h43
          rw [e1] at hp
          rw [decide_eq_false (show ¬ lk s vt2 = ((43 : Nat) : Int) from h43)]
          replace HP := hid hp
          replace TW := hid (TW.out.trans tt (fun _ _ e => e))
          clear hp tt e1
          go_wp2_with fail
          refine ((KT.out 45 (by decide)) _ vt2 HP.out (by omega)).mono ?_
          rintro e w39 ⟨rfl, hp, tt⟩
          replace HP := hid hp
          replace TW := hid (TW.out.trans tt (fun _ _ e => e))
          clear hp tt
          clear h43
          generalize decide (lk s vt2 = ((45 : Nat) : Int)) = bq at *
          have hy : t ≤ stp s vt2 45 ∧ stp s vt2 45 ≤ s.size := by omega
          clear hst
          generalize stp s vt2 45 = yvt2 at *
          unfold dgE at HX
          have hdl := dgn_at s yvt2 (by omega)
          have KD := hid (KG.out _ yvt2 HP.out (by omega))
          by_cases hz : dgn (s.data.toList.drop yvt2) = 0
          · rw [if_pos hz] at HX
            rw [hz, show digitsE 0 yvt2 = .panicked [{ v := .iface 39 (.agg #[.int .i64 ((20 : Nat) : Int), .int .i64 (yvt2 : Nat)]), recovered := false }] from rfl] at KD
            clear hdl hz KT KG HP
            go_wp2_with fail
            refine KD.out.mono ?_
            rintro e w40 ⟨rfl, hp, tt⟩
            have HE := hid hp
            have TE := hid (TW.out.trans tt (fun _ _ e => e))
            clear hp tt KD TW
            go_wp2
            refine ⟨rfl, ?_⟩
            rw [HX.out]
            exact ⟨rfl, HE.out, TE.out⟩
          · rw [if_neg hz] at HX
            rw [show digitsE (dgn (s.data.toList.drop yvt2)) yvt2 = .returned (.tuple #[]) from if_neg hz] at KD
            go_wp2_with fail
            refine KD.out.mono ?_
            rintro e w41 ⟨rfl, hp, tt⟩
            replace HP := hid hp
            replace TW := hid (TW.out.trans tt (fun _ _ e => e))
            have hg2 : t ≤ yvt2 + dgn (s.data.toList.drop yvt2) := by omega
            clear hp tt KD hz
            generalize yvt2 + dgn (s.data.toList.drop yvt2) = zyvt2 at *
            have c0 := HP.out.c0
            have c1 := HP.out.c1
            have hu1 : (t : Int) ≤ (zyvt2 : Int) := by omega
            have hu2 : (zyvt2 : Int) ≤ (s.size : Int) := by omega
            clear KT KG
            go_wp2_with fail
            go_quiet (fail)
            go_wp2
            go_ret
            rw [HX.out]
            exact ⟨rfl, HP.out.new ((Touch.refl _ _).drewN _), TW.out.drewN _⟩
      · rw [if_neg h101] at HX
        by_cases h69 : lk s t2 = 69
        · rw [if_pos h69] at HX
          have hlt := lk_lt (c := 69) h69
          go_wp2_with fail
          refine ((KT.out 101 (by decide)) _ t2 HP.out (by omega)).mono ?_
          rintro e w42 ⟨rfl, hp, tt⟩
          have e1 : stp s t2 101 = t2 := if_neg h101
          rw [e1] at hp
          rw [decide_eq_false (show ¬ lk s t2 = ((101 : Nat) : Int) from h101)]
          replace HP := hid hp
          replace TW := hid (TW.out.trans tt (fun _ _ e => e))
          clear hp tt e1
          go_wp2_with fail
          refine ((KT.out 69 (by decide)) _ t2 HP.out (by omega)).mono ?_
          rintro e w43 ⟨rfl, hp, tt⟩
          have e1 : stp s t2 69 = t2 + 1 := if_pos h69
          rw [e1] at hp
          rw [decide_eq_true (show lk s t2 = ((69 : Nat) : Int) from h69)]
          replace HP := hid hp
          replace TW := hid (TW.out.trans tt (fun _ _ e => e))
          clear hp tt e1
          clear h101 h69
          have hvt2 : t ≤ t2 + 1 ∧ t2 + 1 ≤ s.size := by omega
          generalize t2 + 1 = vt2 at *
          unfold sgn at HX
          by_cases h43 : lk s vt2 = 43
          · rw [if_pos h43] at HX
            have hlt := lk_lt (c := 43) h43
            go_wp2_with fail
            refine ((KT.out 43 (by decide)) _ vt2 HP.out (by omega)).mono ?_
            rintro e w44 ⟨rfl, hp, tt⟩
            have e1 : stp s vt2 43 = vt2 + 1 := if_pos h43
            rw [e1] at hp
            rw [decide_eq_true (show lk s vt2 = ((43 : Nat) : Int) from h43)]
            replace HP := hid hp
            replace TW := hid (TW.out.trans tt (fun _ _ e => e))
            clear hp tt e1
            have hy : t ≤ vt2 + 1 ∧ vt2 + 1 ≤ s.size := by omega
            clear h43 hlt
            generalize vt2 + 1 = yvt2 at *
            unfold dgE at HX
            have hdl := dgn_at s yvt2 (by omega)
            have KD := hid (KG.out _ yvt2 HP.out (by omega))
            by_cases hz : dgn (s.data.toList.drop yvt2) = 0
            · rw [if_pos hz] at HX
              rw [hz, show digitsE 0 yvt2 = .panicked [{ v := .iface 39 (.agg #[.int .i64 ((20 : Nat) : Int), .int .i64 (yvt2 : Nat)]), recovered := false }] from rfl] at KD
              clear hdl hz KT KG HP
              go_wp2_with fail
              refine KD.out.mono ?_
              rintro e w45 ⟨rfl, hp, tt⟩
              have HE := hid hp
              have TE := hid (TW.out.trans tt (fun _ _ e => e))
              clear hp tt KD TW
              go_wp2
              refine ⟨rfl, ?_⟩
              rw [HX.out]
              exact ⟨rfl, HE.out, TE.out⟩
            · rw [if_neg hz] at HX
              rw [show digitsE (dgn (s.data.toList.drop yvt2)) yvt2 = .returned (.tuple #[]) from if_neg hz] at KD
              go_wp2_with fail
              refine KD.out.mono ?_
              rintro e w46 ⟨rfl, hp, tt⟩
              replace HP := hid hp
              replace TW := hid (TW.out.trans tt (fun _ _ e => e))
              have hg2 : t ≤ yvt2 + dgn (s.data.toList.drop yvt2) := by omega
              clear hp tt KD hz
              generalize yvt2 + dgn (s.data.toList.drop yvt2) = zyvt2 at *
              have c0 := HP.out.c0
              have c1 := HP.out.c1
              have hu1 : (t : Int) ≤ (zyvt2 : Int) := by omega
              have hu2 : (zyvt2 : Int) ≤ (s.size : Int) := by omega
              clear KT KG
              go_wp2_with fail
              go_quiet (fail)
              go_wp2
              go_ret
              rw [HX.out]
              exact ⟨rfl, HP.out.new ((Touch.refl _ _).drewN _), TW.out.drewN _⟩
          · rw [if_neg h43] at HX
            have hst := stp_le s vt2 45 (by omega)
            go_wp2_with fail
            refine ((KT.out 43 (by decide)) _ vt2 HP.out (by omega)).mono ?_
            rintro e w47 ⟨rfl, hp, tt⟩
            have e1 : stp s vt2 43 = vt2 := if_neg h43
            rw [e1] at hp
            rw [decide_eq_false (show ¬ lk s vt2 = ((43 : Nat) : Int) from h43)]
            replace HP := hid hp
            replace TW := hid (TW.out.trans tt (fun _ _ e => e))
            clear hp tt e1
            go_wp2_with fail
            refine ((KT.out 45 (by decide)) _ vt2 HP.out (by omega)).mono ?_
            rintro e w48 ⟨rfl, hp, tt⟩
            replace HP := hid hp
            replace TW := hid (TW.out.trans tt (fun _ _ e => e))
            clear hp tt
            clear h43
            generalize decide (lk s vt2 = ((45 : Nat) : Int)) = bq at *
            have hy : t ≤ stp s vt2 45 ∧ stp s vt2 45 ≤ s.size := by omega
            clear hst
            generalize stp s vt2 45 = yvt2 at *
            unfold dgE at HX
            have hdl := dgn_at s yvt2 (by omega)
            have KD := hid (KG.out _ yvt2 HP.out (by omega))
            by_cases hz : dgn (s.data.toList.drop yvt2) = 0
            · rw [if_pos hz] at HX
              rw [hz, show digitsE 0 yvt2 = .panicked [{ v := .iface 39 (.agg #[.int .i64 ((20 : Nat) : Int), .int .i64 (yvt2 : Nat)]), recovered := false }] from rfl] at KD
              clear hdl hz KT KG HP
              go_wp2_with fail
              refine KD.out.mono ?_
              rintro e w49 ⟨rfl, hp, tt⟩
              have HE := hid hp
              have TE := hid (TW.out.trans tt (fun _ _ e => e))
              clear hp tt KD TW
              go_wp2
              refine ⟨rfl, ?_⟩
              rw [HX.out]
              exact ⟨rfl, HE.out, TE.out⟩
            · rw [if_neg hz] at HX
              rw [show digitsE (dgn (s.data.toList.drop yvt2)) yvt2 = .returned (.tuple #[]) from if_neg hz] at KD
              go_wp2_with fail
              refine KD.out.mono ?_
              rintro e w50 ⟨rfl, hp, tt⟩
              replace HP := hid hp
              replace TW := hid (TW.out.trans tt (fun _ _ e => e))
              have hg2 : t ≤ yvt2 + dgn (s.data.toList.drop yvt2) := by omega
              clear hp tt KD hz
              generalize yvt2 + dgn (s.data.toList.drop yvt2) = zyvt2 at *
              have c0 := HP.out.c0
              have c1 := HP.out.c1
              have hu1 : (t : Int) ≤ (zyvt2 : Int) := by omega
              have hu2 : (zyvt2 : Int) ≤ (s.size : Int) := by omega
              clear KT KG
              go_wp2_with fail
              go_quiet (fail)
              go_wp2
              go_ret
              rw [HX.out]
              exact ⟨rfl, HP.out.new ((Touch.refl _ _).drewN _), TW.out.drewN _⟩
        · rw [if_neg h69] at HX
          go_wp2_with fail
          refine ((KT.out 101 (by decide)) _ t2 HP.out (by omega)).mono ?_
          rintro e w51 ⟨rfl, hp, tt⟩
          have e1 : stp s t2 101 = t2 := if_neg h101
          rw [e1] at hp
          rw [decide_eq_false (show ¬ lk s t2 = ((101 : Nat) : Int) from h101)]
          replace HP := hid hp
          replace TW := hid (TW.out.trans tt (fun _ _ e => e))
          clear hp tt e1
          go_wp2_with fail
          refine ((KT.out 69 (by decide)) _ t2 HP.out (by omega)).mono ?_
          rintro e w52 ⟨rfl, hp, tt⟩
          have e1 : stp s t2 69 = t2 := if_neg h69
          rw [e1] at hp
          rw [decide_eq_false (show ¬ lk s t2 = ((69 : Nat) : Int) from h69)]
          replace HP := hid hp
          replace TW := hid (TW.out.trans tt (fun _ _ e => e))
          clear hp tt e1
          clear h101 h69
          have c0 := HP.out.c0
          have c1 := HP.out.c1
          have hu1 : (t : Int) ≤ (t2 : Int) := by omega
          have hu2 : (t2 : Int) ≤ (s.size : Int) := by omega
          clear KT KG
          go_wp2_with fail
          go_quiet (fail)
          go_wp2
          go_ret
          rw [HX.out]
          exact ⟨rfl, HP.out.new ((Touch.refl _ _).drewN _), TW.out.drewN _⟩
  · rw [if_neg h48] at HX
    go_wp2_with fail
    refine ((KT.out 48 (by decide)) _ t1 HP.out (by omega)).mono ?_
    rintro e w53 ⟨rfl, hp, tt⟩
    have e1 : stp s t1 48 = t1 := if_neg h48
    rw [e1] at hp
    rw [decide_eq_false (show ¬ lk s t1 = ((48 : Nat) : Int) from h48)]
    replace HP := hid hp
    replace TW := hid (TW.out.trans tt (fun _ _ e => e))
    clear hp tt e1
    clear h48
    unfold dgE at HX
    have hdl := dgn_at s t1 (by omega)
    have KD := hid (KG.out _ t1 HP.out (by omega))
    by_cases hz : dgn (s.data.toList.drop t1) = 0
    · rw [if_pos hz] at HX
      rw [hz, show digitsE 0 t1 = .panicked [{ v := .iface 39 (.agg #[.int .i64 ((20 : Nat) : Int), .int .i64 (t1 : Nat)]), recovered := false }] from rfl] at KD
      clear hdl hz KT KG HP
      go_wp2_with fail
      refine KD.out.mono ?_
      rintro e w54 ⟨rfl, hp, tt⟩
      have HE := hid hp
      have TE := hid (TW.out.trans tt (fun _ _ e => e))
      clear hp tt KD TW
      go_wp2
      refine ⟨rfl, ?_⟩
      rw [HX.out]
      exact ⟨rfl, HE.out, TE.out⟩
    · rw [if_neg hz] at HX
      rw [show digitsE (dgn (s.data.toList.drop t1)) t1 = .returned (.tuple #[]) from if_neg hz] at KD
      go_wp2_with fail
      refine KD.out.mono ?_
      rintro e w55 ⟨rfl, hp, tt⟩
      replace HP := hid hp
      replace TW := hid (TW.out.trans tt (fun _ _ e => e))
      have hg2 : t ≤ t1 + dgn (s.data.toList.drop t1) := by omega
      clear hp tt KD hz
      generalize t1 + dgn (s.data.toList.drop t1) = t2 at *
      unfold part2 at HX
      by_cases h46 : lk s t2 = 46
      · rw [if_pos h46] at HX
        have hlt := lk_lt (c := 46) h46
        go_wp2_with fail
        refine ((KT.out 46 (by decide)) _ t2 HP.out (by omega)).mono ?_
        rintro e w56 ⟨rfl, hp, tt⟩
        have e1 : stp s t2 46 = t2 + 1 := if_pos h46
        rw [e1] at hp
        rw [decide_eq_true (show lk s t2 = ((46 : Nat) : Int) from h46)]
        replace HP := hid hp
        replace TW := hid (TW.out.trans tt (fun _ _ e => e))
        clear hp tt e1
        have hp1 : t ≤ t2 + 1 ∧ t2 + 1 ≤ s.size := by omega
        clear h46 hlt
        generalize t2 + 1 = pt2 at *
        unfold dgE at HX
        have hdl := dgn_at s pt2 (by omega)
        have KD := hid (KG.out _ pt2 HP.out (by omega))
        by_cases hz : dgn (s.data.toList.drop pt2) = 0
        · rw [if_pos hz] at HX
          rw [hz, show digitsE 0 pt2 = .panicked [{ v := .iface 39 (.agg #[.int .i64 ((20 : Nat) : Int), .int .i64 (pt2 : Nat)]), recovered := false }] from rfl] at KD
          clear hdl hz KT KG HP
          go_wp2_with fail
          refine KD.out.mono ?_
          rintro e w57 ⟨rfl, hp, tt⟩
          have HE := hid hp
          have TE := hid (TW.out.trans tt (fun _ _ e => e))
          clear hp tt KD TW
          go_wp2
          refine ⟨rfl, ?_⟩
          rw [HX.out]
          exact ⟨rfl, HE.out, TE.out⟩
        · rw [if_neg hz] at HX
          rw [show digitsE (dgn (s.data.toList.drop pt2)) pt2 = .returned (.tuple #[]) from if_neg hz] at KD
          go_wp2_with fail
          refine KD.out.mono ?_
          rintro e w58 ⟨rfl, hp, tt⟩
          replace HP := hid hp
          replace TW := hid (TW.out.trans tt (fun _ _ e => e))
          have hg2 : t ≤ pt2 + dgn (s.data.toList.drop pt2) := by omega
          clear hp tt KD hz
          generalize pt2 + dgn (s.data.toList.drop pt2) = qt2 at *
          unfold part3 at HX
          by_cases h101 : lk s qt2 = 101
          · rw [if_pos h101] at HX
            have hlt := lk_lt (c := 101) h101
            go_wp2_with fail
            refine ((KT.out 101 (by decide)) _ qt2 HP.out (by omega)).mono ?_
            rintro e w59 ⟨rfl, hp, tt⟩
            have e1 : stp s qt2 101 = qt2 + 1 := if_pos h101
            rw [e1] at hp
            rw [decide_eq_true (show lk s qt2 = ((101 : Nat) : Int) from h101)]
            replace HP := hid hp
            replace TW := hid (TW.out.trans tt (fun _ _ e => e))
            clear hp tt e1
            clear h101
            have hvqt2 : t ≤ qt2 + 1 ∧ qt2 + 1 ≤ s.size := by omega
            generalize qt2 + 1 = vqt2 at *
            unfold sgn at HX
            by_cases h43 : lk s vqt2 = 43
            · rw [if_pos h43] at HX
              have hlt := lk_lt (c := 43) h43
              go_wp2_with fail
              refine ((KT.out 43 (by decide)) _ vqt2 HP.out (by omega)).mono ?_
              rintro e w60 ⟨rfl, hp, tt⟩
              have e1 : stp s vqt2 43 = vqt2 + 1 := if_pos h43
              rw [e1] at hp
              rw [decide_eq_true (show lk s vqt2 = ((43 : Nat) : Int) from h43)]
              replace HP := hid hp
              replace TW := hid (TW.out.trans tt (fun _ _ e => e))
              clear hp tt e1
              have hy : t ≤ vqt2 + 1 ∧ vqt2 + 1 ≤ s.size := by omega
              clear h43 hlt
              generalize vqt2 + 1 = yvqt2 at *
              unfold dgE at HX
              have hdl := dgn_at s yvqt2 (by omega)
              have KD := hid (KG.out _ yvqt2 HP.out (by omega))
              by_cases hz : dgn (s.data.toList.drop yvqt2) = 0
              · rw [if_pos hz] at HX
                rw [hz, show digitsE 0 yvqt2 = .panicked [{ v := .iface 39 (.agg #[.int .i64 ((20 : Nat) : Int), .int .i64 (yvqt2 : Nat)]), recovered := false }] from rfl] at KD
                clear hdl hz KT KG HP
                go_wp2_with fail
                refine KD.out.mono ?_
                rintro e w61 ⟨rfl, hp, tt⟩
                have HE := hid hp
                have TE := hid (TW.out.trans tt (fun _ _ e => e))
                clear hp tt KD TW
                go_wp2
                refine ⟨rfl, ?_⟩
                rw [HX.out]
                exact ⟨rfl, HE.out, TE.out⟩
              · rw [if_neg hz] at HX
                rw [show digitsE (dgn (s.data.toList.drop yvqt2)) yvqt2 = .returned (.tuple #[]) from if_neg hz] at KD
                go_wp2_with fail
                refine KD.out.mono ?_
                rintro e w62 ⟨rfl, hp, tt⟩
                replace HP := hid hp
                replace TW := hid (TW.out.trans tt (fun _ _ e => e))
                have hg2 : t ≤ yvqt2 + dgn (s.data.toList.drop yvqt2) := by omega
                clear hp tt KD hz
                generalize yvqt2 + dgn (s.data.toList.drop yvqt2) = zyvqt2 at *
                have c0 := HP.out.c0
                have c1 := HP.out.c1
                have hu1 : (t : Int) ≤ (zyvqt2 : Int) := by omega
                have hu2 : (zyvqt2 : Int) ≤ (s.size : Int) := by omega
                clear KT KG
                go_wp2_with fail
                go_quiet (fail)
                go_wp2
                go_ret
                rw [HX.out]
                exact ⟨rfl, HP.out.new ((Touch.refl _ _).drewN _), TW.out.drewN _⟩
            · rw [if_neg h43] at HX
              have hst := stp_le s vqt2 45 (by omega)
              go_wp2_with fail
              refine ((KT.out 43 (by decide)) _ vqt2 HP.out (by omega)).mono ?_
              rintro e w63 ⟨rfl, hp, tt⟩
              have e1 : stp s vqt2 43 = vqt2 := if_neg h43
              rw [e1] at hp
              rw [decide_eq_false (show ¬ lk s vqt2 = ((43 : Nat) : Int) from h43)]
              replace HP := hid hp
              replace TW := hid (TW.out.trans tt (fun _ _ e => e))
              clear hp tt e1
              go_wp2_with fail
              refine ((KT.out 45 (by decide)) _ vqt2 HP.out (by omega)).mono ?_
              rintro e w64 ⟨rfl, hp, tt⟩
              replace HP := hid hp
              replace TW := hid (TW.out.trans tt (fun _ _ e => e))
              clear hp tt
              clear h43
              generalize decide (lk s vqt2 = ((45 : Nat) : Int)) = bq at *
              have hy : t ≤ stp s vqt2 45 ∧ stp s vqt2 45 ≤ s.size := by omega
              clear hst
              generalize stp s vqt2 45 = yvqt2 at *
              unfold dgE at HX
              have hdl := dgn_at s yvqt2 (by omega)
              have KD := hid (KG.out _ yvqt2 HP.out (by omega))
              by_cases hz : dgn (s.data.toList.drop yvqt2) = 0
              · rw [if_pos hz] at HX
                rw [hz, show digitsE 0 yvqt2 = .panicked [{ v := .iface 39 (.agg #[.int .i64 ((20 : Nat) : Int), .int .i64 (yvqt2 : Nat)]), recovered := false }] from rfl] at KD
                clear hdl hz KT KG HP
                go_wp2_with fail
                refine KD.out.mono ?_
                rintro e w65 ⟨rfl, hp, tt⟩
                have HE := hid hp
                have TE := hid (TW.out.trans tt (fun _ _ e => e))
                clear hp tt KD TW
                go_wp2
                refine ⟨rfl, ?_⟩
                rw [HX.out]
                exact ⟨rfl, HE.out, TE.out⟩
              · rw [if_neg hz] at HX
                rw [show digitsE (dgn (s.data.toList.drop yvqt2)) yvqt2 = .returned (.tuple #[]) from if_neg hz] at KD
                go_wp2_with fail
                refine KD.out.mono ?_
                rintro e w66 ⟨rfl, hp, tt⟩
                replace HP := hid hp
                replace TW := hid (TW.out.trans tt (fun _ _ e => e))
                have hg2 : t ≤ yvqt2 + dgn (s.data.toList.drop yvqt2) := by omega
                clear hp tt KD hz
                generalize yvqt2 + dgn (s.data.toList.drop yvqt2) = zyvqt2 at *
                have c0 := HP.out.c0
                have c1 := HP.out.c1
                have hu1 : (t : Int) ≤ (zyvqt2 : Int) := by omega
                have hu2 : (zyvqt2 : Int) ≤ (s.size : Int) := by omega
                clear KT KG
                go_wp2_with fail
                go_quiet (fail)
                go_wp2
                go_ret
                rw [HX.out]
                exact ⟨rfl, HP.out.new ((Touch.refl _ _).drewN _), TW.out.drewN _⟩
          · rw [if_neg h101] at HX
            by_cases h69 : lk s qt2 = 69
            · rw [if_pos h69] at HX
              have hlt := lk_lt (c := 69) h69
              go_wp2_with fail
              refine ((KT.out 101 (by decide)) _ qt2 HP.out (by omega)).mono ?_
              rintro e w67 ⟨rfl, hp, tt⟩
              have e1 : stp s qt2 101 = qt2 := if_neg h101
              rw [e1] at hp
              rw [decide_eq_false (show ¬ lk s qt2 = ((101 : Nat) : Int) from h101)]
              replace HP := hid hp
              replace TW := hid (TW.out.trans tt (fun _ _ e => e))
              clear hp tt e1
              go_wp2_with fail
              refine ((KT.out 69 (by decide)) _ qt2 HP.out (by omega)).mono ?_
              rintro e w68 ⟨rfl, hp, tt⟩
              have e1 : stp s qt2 69 = qt2 + 1 := if_pos h69
              rw [e1] at hp
              rw [decide_eq_true (show lk s qt2 = ((69 : Nat) : Int) from h69)]
              replace HP := hid hp
              replace TW := hid (TW.out.trans tt (fun _ _ e => e))
              clear hp tt e1
              clear h101 h69
              have hvqt2 : t ≤ qt2 + 1 ∧ qt2 + 1 ≤ s.size := by omega
              generalize qt2 + 1 = vqt2 at *
              unfold sgn at HX
              by_cases h43 : lk s vqt2 = 43
              · rw [if_pos h43] at HX
                have hlt := lk_lt (c := 43) h43
                go_wp2_with fail
                refine ((KT.out 43 (by decide)) _ vqt2 HP.out (by omega)).mono ?_
                rintro e w69 ⟨rfl, hp, tt⟩
                have e1 : stp s vqt2 43 = vqt2 + 1 := if_pos h43
                rw [e1] at hp
                rw [decide_eq_true (show lk s vqt2 = ((43 : Nat) : Int) from h43)]
                replace HP := hid hp
                replace TW := hid (TW.out.trans tt (fun _ _ e => e))
                clear hp tt e1
                have hy : t ≤ vqt2 + 1 ∧ vqt2 + 1 ≤ s.size := by omega
                clear h43 hlt
                generalize vqt2 + 1 = yvqt2 at *
                unfold dgE at HX
                have hdl := dgn_at s yvqt2 (by omega)
                have KD := hid (KG.out _ yvqt2 HP.out (by omega))
                by_cases hz : dgn (s.data.toList.drop yvqt2) = 0
                · rw [if_pos hz] at HX
                  rw [hz, show digitsE 0 yvqt2 = .panicked [{ v := .iface 39 (.agg #[.int .i64 ((20 : Nat) : Int), .int .i64 (yvqt2 : Nat)]), recovered := false }] from rfl] at KD
                  clear hdl hz KT KG HP
                  go_wp2_with fail
                  refine KD.out.mono ?_
                  rintro e w70 ⟨rfl, hp, tt⟩
                  have HE := hid hp
                  have TE := hid (TW.out.trans tt (fun _ _ e => e))
                  clear hp tt KD TW
                  go_wp2
                  refine ⟨rfl, ?_⟩
                  rw [HX.out]
                  exact ⟨rfl, HE.out, TE.out⟩
                · rw [if_neg hz] at HX
                  rw [show digitsE (dgn (s.data.toList.drop yvqt2)) yvqt2 = .returned (.tuple #[]) from if_neg hz] at KD
                  go_wp2_with fail
                  refine KD.out.mono ?_
                  rintro e w71 ⟨rfl, hp, tt⟩
                  replace HP := hid hp
                  replace TW := hid (TW.out.trans tt (fun _ _ e => e))
                  have hg2 : t ≤ yvqt2 + dgn (s.data.toList.drop yvqt2) := by omega
                  clear hp tt KD hz
                  generalize yvqt2 + dgn (s.data.toList.drop yvqt2) = zyvqt2 at *
                  have c0 := HP.out.c0
                  have c1 := HP.out.c1
                  have hu1 : (t : Int) ≤ (zyvqt2 : Int) := by omega
                  have hu2 : (zyvqt2 : Int) ≤ (s.size : Int) := by omega
                  clear KT KG
                  go_wp2_with fail
                  go_quiet (fail)
                  go_wp2
                  go_ret
                  rw [HX.out]
                  exact ⟨rfl, HP.out.new ((Touch.refl _ _).drewN _), TW.out.drewN _⟩
              · rw [if_neg h43] at HX
                have hst := stp_le s vqt2 45 (by omega)
                go_wp2_with fail
                refine ((KT.out 43 (by decide)) _ vqt2 HP.out (by omega)).mono ?_
                rintro e w72 ⟨rfl, hp, tt⟩
                have e1 : stp s vqt2 43 = vqt2 := if_neg h43
                rw [e1] at hp
                rw [decide_eq_false (show ¬ lk s vqt2 = ((43 : Nat) : Int) from h43)]
                replace HP := hid hp
                replace TW := hid (TW.out.trans tt (fun _ _ e => e))
                clear hp tt e1
                go_wp2_with fail
                refine ((KT.out 45 (by decide)) _ vqt2 HP.out (by omega)).mono ?_
                rintro e w73 ⟨rfl, hp, tt⟩
                replace HP := hid hp
                replace TW := hid (TW.out.trans tt (fun _ _ e => e))
                clear hp tt
                clear h43
                generalize decide (lk s vqt2 = ((45 : Nat) : Int)) = bq at *
                have hy : t ≤ stp s vqt2 45 ∧ stp s vqt2 45 ≤ s.size := by omega
                clear hst
                generalize stp s vqt2 45 = yvqt2 at *
                unfold dgE at HX
                have hdl := dgn_at s yvqt2 (by omega)
                have KD := hid (KG.out _ yvqt2 HP.out (by omega))
                by_cases hz : dgn (s.data.toList.drop yvqt2) = 0
                · rw [if_pos hz] at HX
                  rw [hz, show digitsE 0 yvqt2 = .panicked [{ v := .iface 39 (.agg #[.int .i64 ((20 : Nat) : Int), .int .i64 (yvqt2 : Nat)]), recovered := false }] from rfl] at KD
                  clear hdl hz KT KG HP
                  go_wp2_with fail
                  refine KD.out.mono ?_
                  rintro e w74 ⟨rfl, hp, tt⟩
                  have HE := hid hp
                  have TE := hid (TW.out.trans tt (fun _ _ e => e))
                  clear hp tt KD TW
                  go_wp2
                  refine ⟨rfl, ?_⟩
                  rw [HX.out]
                  exact ⟨rfl, HE.out, TE.out⟩
                · rw [if_neg hz] at HX
                  rw [show digitsE (dgn (s.data.toList.drop yvqt2)) yvqt2 = .returned (.tuple #[]) from if_neg hz] at KD
                  go_wp2_with fail
                  refine KD.out.mono ?_
                  rintro e w75 ⟨rfl, hp, tt⟩
                  replace HP := hid hp
                  replace TW := hid (TW.out.trans tt (fun _ _ e => e))
                  have hg2 : t ≤ yvqt2 + dgn (s.data.toList.drop yvqt2) := by omega
                  clear hp tt KD hz
                  generalize yvqt2 + dgn (s.data.toList.drop yvqt2) = zyvqt2 at *
                  have c0 := HP.out.c0
                  have c1 := HP.out.c1
                  have hu1 : (t : Int) ≤ (zyvqt2 : Int) := by omega
                  have hu2 : (zyvqt2 : Int) ≤ (s.size : Int) := by omega
                  clear KT KG
                  go_wp2_with fail
                  go_quiet (fail)
                  go_wp2
                  go_ret
                  rw [HX.out]
                  exact ⟨rfl, HP.out.new ((Touch.refl _ _).drewN _), TW.out.drewN _⟩
            · rw [if_neg h69] at HX
              go_wp2_with fail
              refine ((KT.out 101 (by decide)) _ qt2 HP.out (by omega)).mono ?_
              rintro e w76 ⟨rfl, hp, tt⟩
              have e1 : stp s qt2 101 = qt2 := if_neg h101
              rw [e1] at hp
              rw [decide_eq_false (show ¬ lk s qt2 = ((101 : Nat) : Int) from h101)]
              replace HP := hid hp
              replace TW := hid (TW.out.trans tt (fun _ _ e => e))
              clear hp tt e1
              go_wp2_with fail
              refine ((KT.out 69 (by decide)) _ qt2 HP.out (by omega)).mono ?_
              rintro e w77 ⟨rfl, hp, tt⟩
              have e1 : stp s qt2 69 = qt2 := if_neg h69
              rw [e1] at hp
              rw [decide_eq_false (show ¬ lk s qt2 = ((69 : Nat) : Int) from h69)]
              replace HP := hid hp
              replace TW := hid (TW.out.trans tt (fun _ _ e => e))
              clear hp tt e1
              clear h101 h69
              have c0 := HP.out.c0
              have c1 := HP.out.c1
              have hu1 : (t : Int) ≤ (qt2 : Int) := by omega
              have hu2 : (qt2 : Int) ≤ (s.size : Int) := by omega
              clear KT KG
              go_wp2_with fail
              go_quiet (fail)
              go_wp2
              go_ret
              rw [HX.out]
              exact ⟨rfl, HP.out.new ((Touch.refl _ _).drewN _), TW.out.drewN _⟩
      · rw [if_neg h46] at HX
        go_wp2_with fail
        refine ((KT.out 46 (by decide)) _ t2 HP.out (by omega)).mono ?_
        rintro e w78 ⟨rfl, hp, tt⟩
        have e1 : stp s t2 46 = t2 := if_neg h46
        rw [e1] at hp
        rw [decide_eq_false (show ¬ lk s t2 = ((46 : Nat) : Int) from h46)]
        replace HP := hid hp
        replace TW := hid (TW.out.trans tt (fun _ _ e => e))
        clear hp tt e1
        clear h46
        unfold part3 at HX
        by_cases h101 : lk s t2 = 101
        · rw [if_pos h101] at HX
          have hlt := lk_lt (c := 101) h101
          go_wp2_with fail
          refine ((KT.out 101 (by decide)) _ t2 HP.out (by omega)).mono ?_
          rintro e w79 ⟨rfl, hp, tt⟩
          have e1 : stp s t2 101 = t2 + 1 := if_pos h101
          rw [e1] at hp
          rw [decide_eq_true (show lk s t2 = ((101 : Nat) : Int) from h101)]
          replace HP := hid hp
          replace TW := hid (TW.out.trans tt (fun _ _ e => e))
          clear hp tt e1
          clear h101
          have hvt2 : t ≤ t2 + 1 ∧ t2 + 1 ≤ s.size := by omega
          generalize t2 + 1 = vt2 at *
          unfold sgn at HX
          by_cases h43 : lk s vt2 = 43
          · rw [if_pos h43] at HX
            have hlt := lk_lt (c := 43) h43
            go_wp2_with fail
            refine ((KT.out 43 (by decide)) _ vt2 HP.out (by omega)).mono ?_
            rintro e w80 ⟨rfl, hp, tt⟩
            have e1 : stp s vt2 43 = vt2 + 1 := if_pos h43
            rw [e1] at hp
            rw [decide_eq_true (show lk s vt2 = ((43 : Nat) : Int) from h43)]
            replace HP := hid hp
            replace TW := hid (TW.out.trans tt (fun _ _ e => e))
            clear hp tt e1
            have hy : t ≤ vt2 + 1 ∧ vt2 + 1 ≤ s.size := by omega
            clear h43 hlt
            generalize vt2 + 1 = yvt2 at *
            unfold dgE at HX
            have hdl := dgn_at s yvt2 (by omega)
            have KD := hid (KG.out _ yvt2 HP.out (by omega))
            by_cases hz : dgn (s.data.toList.drop yvt2) = 0
            · rw [if_pos hz] at HX
              rw [hz, show digitsE 0 yvt2 = .panicked [{ v := .iface 39 (.agg #[.int .i64 ((20 : Nat) : Int), .int .i64 (yvt2 : Nat)]), recovered := false }] from rfl] at KD
              clear hdl hz KT KG HP
              go_wp2_with fail
              refine KD.out.mono ?_
              rintro e w81 ⟨rfl, hp, tt⟩
              have HE := hid hp
              have TE := hid (TW.out.trans tt (fun _ _ e => e))
              clear hp tt KD TW
              go_wp2
              refine ⟨rfl, ?_⟩
              rw [HX.out]
              exact ⟨rfl, HE.out, TE.out⟩
            · rw [if_neg hz] at HX
              rw [show digitsE (dgn (s.data.toList.drop yvt2)) yvt2 = .returned (.tuple #[]) from if_neg hz] at KD
              go_wp2_with fail
              refine KD.out.mono ?_
              rintro e w82 ⟨rfl, hp, tt⟩
              replace HP := hid hp
              replace TW := hid (TW.out.trans tt (fun _ _ e => e))
              have hg2 : t ≤ yvt2 + dgn (s.data.toList.drop yvt2) := by omega
              clear hp tt KD hz
              generalize yvt2 + dgn (s.data.toList.drop yvt2) = zyvt2 at *
              have c0 := HP.out.c0
              have c1 := HP.out.c1
              have hu1 : (t : Int) ≤ (zyvt2 : Int) := by omega
              have hu2 : (zyvt2 : Int) ≤ (s.size : Int) := by omega
              clear KT KG
              go_wp2_with fail
              go_quiet (fail)
              go_wp2
              go_ret
              rw [HX.out]
              exact ⟨rfl, HP.out.new ((Touch.refl _ _).drewN _), TW.out.drewN _⟩
          · rw [if_neg h43] at HX
            have hst := stp_le s vt2 45 (by omega)
            go_wp2_with fail
            refine ((KT.out 43 (by decide)) _ vt2 HP.out (by omega)).mono ?_
            rintro e w83 ⟨rfl, hp, tt⟩
            have e1 : stp s vt2 43 = vt2 := if_neg h43
            rw [e1] at hp
            rw [decide_eq_false (show ¬ lk s vt2 = ((43 : Nat) : Int) from h43)]
            replace HP := hid hp
            replace TW := hid (TW.out.trans tt (fun _ _ e => e))
            clear hp tt e1
            go_wp2_with fail
            refine ((KT.out 45 (by decide)) _ vt2 HP.out (by omega)).mono ?_
            rintro e w84 ⟨rfl, hp, tt⟩
            replace HP := hid hp
            replace TW := hid (TW.out.trans tt (fun _ _ e => e))
            clear hp tt
            clear h43
            generalize decide (lk s vt2 = ((45 : Nat) : Int)) = bq at *
            have hy : t ≤ stp s vt2 45 ∧ stp s vt2 45 ≤ s.size := by omega
            clear hst
            generalize stp s vt2 45 = yvt2 at *
            unfold dgE at HX
            have hdl := dgn_at s yvt2 (by omega)
            have KD := hid (KG.out _ yvt2 HP.out (by omega))
            by_cases hz : dgn (s.data.toList.drop yvt2) = 0
            · rw [if_pos hz] at HX
              rw [hz, show digitsE 0 yvt2 = .panicked [{ v := .iface 39 (.agg #[.int .i64 ((20 : Nat) : Int), .int .i64 (yvt2 : Nat)]), recovered := false }] from rfl] at KD
              clear hdl hz KT KG HP
              go_wp2_with fail
              refine KD.out.mono ?_
              rintro e w85 ⟨rfl, hp, tt⟩
              have HE := hid hp
              have TE := hid (TW.out.trans tt (fun _ _ e => e))
              clear hp tt KD TW
              go_wp2
              refine ⟨rfl, ?_⟩
              rw [HX.out]
              exact ⟨rfl, HE.out, TE.out⟩
            · rw [if_neg hz] at HX
              rw [show digitsE (dgn (s.data.toList.drop yvt2)) yvt2 = .returned (.tuple #[]) from if_neg hz] at KD
              go_wp2_with fail
              refine KD.out.mono ?_
              rintro e w86 ⟨rfl, hp, tt⟩
              replace HP := hid hp
              replace TW := hid (TW.out.trans tt (fun _ _ e => e))
              have hg2 : t ≤ yvt2 + dgn (s.data.toList.drop yvt2) := by omega
              clear hp tt KD hz
              generalize yvt2 + dgn (s.data.toList.drop yvt2) = zyvt2 at *
              have c0 := HP.out.c0
              have c1 := HP.out.c1
              have hu1 : (t : Int) ≤ (zyvt2 : Int) := by omega
              have hu2 : (zyvt2 : Int) ≤ (s.size : Int) := by omega
              clear KT KG
              go_wp2_with fail
              go_quiet (fail)
              go_wp2
              go_ret
              rw [HX.out]
              exact ⟨rfl, HP.out.new ((Touch.refl _ _).drewN _), TW.out.drewN _⟩
        · rw [if_neg h101] at HX
          by_cases h69 : lk s t2 = 69
          · rw [if_pos h69] at HX
            have hlt := lk_lt (c := 69) h69
            go_wp2_with fail
            refine ((KT.out 101 (by decide)) _ t2 HP.out (by omega)).mono ?_
            rintro e w87 ⟨rfl, hp, tt⟩
            have e1 : stp s t2 101 = t2 := if_neg h101
            rw [e1] at hp
            rw [decide_eq_false (show ¬ lk s t2 = ((101 : Nat) : Int) from h101)]
            replace HP := hid hp
            replace TW := hid (TW.out.trans tt (fun _ _ e => e))
            clear hp tt e1
            go_wp2_with fail
            refine ((KT.out 69 (by decide)) _ t2 HP.out (by omega)).mono ?_
            rintro e w88 ⟨rfl, hp, tt⟩
            have e1 : stp s t2 69 = t2 + 1 := if_pos h69
            rw [e1] at hp
            rw [decide_eq_true (show lk s t2 = ((69 : Nat) : Int) from h69)]
            replace HP := hid hp
            replace TW := hid (TW.out.trans tt (fun _ _ e => e))
            clear hp tt e1
            clear h101 h69
            have hvt2 : t ≤ t2 + 1 ∧ t2 + 1 ≤ s.size := by omega
            generalize t2 + 1 = vt2 at *
            unfold sgn at HX
            by_cases h43 : lk s vt2 = 43
            · rw [if_pos h43] at HX
              have hlt := lk_lt (c := 43) h43
              go_wp2_with fail
              refine ((KT.out 43 (by decide)) _ vt2 HP.out (by omega)).mono ?_
              rintro e w89 ⟨rfl, hp, tt⟩
              have e1 : stp s vt2 43 = vt2 + 1 := if_pos h43
              rw [e1] at hp
              rw [decide_eq_true (show lk s vt2 = ((43 : Nat) : Int) from h43)]
              replace HP := hid hp
              replace TW := hid (TW.out.trans tt (fun _ _ e => e))
              clear hp tt e1
              have hy : t ≤ vt2 + 1 ∧ vt2 + 1 ≤ s.size := by omega
              clear h43 hlt
              generalize vt2 + 1 = yvt2 at *
              unfold dgE at HX
              have hdl := dgn_at s yvt2 (by omega)
              have KD := hid (KG.out _ yvt2 HP.out (by omega))
              by_cases hz : dgn (s.data.toList.drop yvt2) = 0
              · rw [if_pos hz] at HX
                rw [hz, show digitsE 0 yvt2 = .panicked [{ v := .iface 39 (.agg #[.int .i64 ((20 : Nat) : Int), .int .i64 (yvt2 : Nat)]), recovered := false }] from rfl] at KD
                clear hdl hz KT KG HP
                go_wp2_with fail
                refine KD.out.mono ?_
                rintro e w90 ⟨rfl, hp, tt⟩
                have HE := hid hp
                have TE := hid (TW.out.trans tt (fun _ _ e => e))
                clear hp tt KD TW
                go_wp2
                refine ⟨rfl, ?_⟩
                rw [HX.out]
                exact ⟨rfl, HE.out, TE.out⟩
              · rw [if_neg hz] at HX
                rw [show digitsE (dgn (s.data.toList.drop yvt2)) yvt2 = .returned (.tuple #[]) from if_neg hz] at KD
                go_wp2_with fail
                refine KD.out.mono ?_
                rintro e w91 ⟨rfl, hp, tt⟩
                replace HP := hid hp
                replace TW := hid (TW.out.trans tt (fun _ _ e => e))
                have hg2 : t ≤ yvt2 + dgn (s.data.toList.drop yvt2) := by omega
                clear hp tt KD hz
                generalize yvt2 + dgn (s.data.toList.drop yvt2) = zyvt2 at *
                have c0 := HP.out.c0
                have c1 := HP.out.c1
                have hu1 : (t : Int) ≤ (zyvt2 : Int) := by omega
                have hu2 : (zyvt2 : Int) ≤ (s.size : Int) := by omega
                clear KT KG
                go_wp2_with fail
                go_quiet (fail)
                go_wp2
                go_ret
                rw [HX.out]
                exact ⟨rfl, HP.out.new ((Touch.refl _ _).drewN _), TW.out.drewN _⟩
            · rw [if_neg h43] at HX
              have hst := stp_le s vt2 45 (by omega)
              go_wp2_with fail
              refine ((KT.out 43 (by decide)) _ vt2 HP.out (by omega)).mono ?_
              rintro e w92 ⟨rfl, hp, tt⟩
              have e1 : stp s vt2 43 = vt2 := if_neg h43
              rw [e1] at hp
              rw [decide_eq_false (show ¬ lk s vt2 = ((43 : Nat) : Int) from h43)]
              replace HP := hid hp
              replace TW := hid (TW.out.trans tt (fun _ _ e => e))
              clear hp tt e1
              go_wp2_with fail
              refine ((KT.out 45 (by decide)) _ vt2 HP.out (by omega)).mono ?_
              rintro e w93 ⟨rfl, hp, tt⟩
              replace HP := hid hp
              replace TW := hid (TW.out.trans tt (fun _ _ e => e))
              clear hp tt
              clear h43
              generalize decide (lk s vt2 = ((45 : Nat) : Int)) = bq at *
              have hy : t ≤ stp s vt2 45 ∧ stp s vt2 45 ≤ s.size := by omega
              clear hst
              generalize stp s vt2 45 = yvt2 at *
              unfold dgE at HX
              have hdl := dgn_at s yvt2 (by omega)
              have KD := hid (KG.out _ yvt2 HP.out (by omega))
              by_cases hz : dgn (s.data.toList.drop yvt2) = 0
              · rw [if_pos hz] at HX
                rw [hz, show digitsE 0 yvt2 = .panicked [{ v := .iface 39 (.agg #[.int .i64 ((20 : Nat) : Int), .int .i64 (yvt2 : Nat)]), recovered := false }] from rfl] at KD
                clear hdl hz KT KG HP
                go_wp2_with fail
                refine KD.out.mono ?_
                rintro e w94 ⟨rfl, hp, tt⟩
                have HE := hid hp
                have TE := hid (TW.out.trans tt (fun _ _ e => e))
                clear hp tt KD TW
                go_wp2
                refine ⟨rfl, ?_⟩
                rw [HX.out]
                exact ⟨rfl, HE.out, TE.out⟩
              · rw [if_neg hz] at HX
                rw [show digitsE (dgn (s.data.toList.drop yvt2)) yvt2 = .returned (.tuple #[]) from if_neg hz] at KD
                go_wp2_with fail
                refine KD.out.mono ?_
                rintro e w95 ⟨rfl, hp, tt⟩
                replace HP := hid hp
                replace TW := hid (TW.out.trans tt (fun _ _ e => e))
                have hg2 : t ≤ yvt2 + dgn (s.data.toList.drop yvt2) := by omega
                clear hp tt KD hz
                generalize yvt2 + dgn (s.data.toList.drop yvt2) = zyvt2 at *
                have c0 := HP.out.c0
                have c1 := HP.out.c1
                have hu1 : (t : Int) ≤ (zyvt2 : Int) := by omega
                have hu2 : (zyvt2 : Int) ≤ (s.size : Int) := by omega
                clear KT KG
                go_wp2_with fail
                go_quiet (fail)
                go_wp2
                go_ret
                rw [HX.out]
                exact ⟨rfl, HP.out.new ((Touch.refl _ _).drewN _), TW.out.drewN _⟩
          · rw [if_neg h69] at HX
            go_wp2_with fail
            refine ((KT.out 101 (by decide)) _ t2 HP.out (by omega)).mono ?_
            rintro e w96 ⟨rfl, hp, tt⟩
            have e1 : stp s t2 101 = t2 := if_neg h101
            rw [e1] at hp
            rw [decide_eq_false (show ¬ lk s t2 = ((101 : Nat) : Int) from h101)]
            replace HP := hid hp
            replace TW := hid (TW.out.trans tt (fun _ _ e => e))
            clear hp tt e1
            go_wp2_with fail
            refine ((KT.out 69 (by decide)) _ t2 HP.out (by omega)).mono ?_
            rintro e w97 ⟨rfl, hp, tt⟩
            have e1 : stp s t2 69 = t2 := if_neg h69
            rw [e1] at hp
            rw [decide_eq_false (show ¬ lk s t2 = ((69 : Nat) : Int) from h69)]
            replace HP := hid hp
            replace TW := hid (TW.out.trans tt (fun _ _ e => e))
            clear hp tt e1
            clear h101 h69
            have c0 := HP.out.c0
            have c1 := HP.out.c1
            have hu1 : (t : Int) ≤ (t2 : Int) := by omega
            have hu2 : (t2 : Int) ≤ (s.size : Int) := by omega
            clear KT KG
            go_wp2_with fail
            go_quiet (fail)
            go_wp2
            go_ret
            rw [HX.out]
            exact ⟨rfl, HP.out.new ((Touch.refl _ _).drewN _), TW.out.drewN _⟩
end Go.Proofs.YtjpmjcadnnglnaaDoor
