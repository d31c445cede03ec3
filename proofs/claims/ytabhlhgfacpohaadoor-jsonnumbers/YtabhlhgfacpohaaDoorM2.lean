/- Texts of this proof, one behind the other: what each says stands ahead of it. -/
import Derived.Test.YtabhlhgfacpohaaDoorM0
/- A parser of JSON: look, take, wrong; condition: the text fits into memory. -/
namespace Go.Proofs.YtabhlhgfacpohaaDoor
open Go.RowKit

theorem size_list (s : ByteArray) : s.data.toList.length = s.size := by rw [Array.length_toList]; rfl
theorem at_opt (s : ByteArray) (i : Nat) (h : i < s.size) : s.data.toList[i]? = some s[i] := by
  rw [List.getElem?_eq_getElem (by simpa using h)]
  rfl
/-- A parser in memory: its text, its place, how deep it is. -/
def Ps (w : World) (b : Nat) (s : ByteArray) (t d : Nat) : Prop := w.heap[b]? = some (.cells #[.string s, .int .i64 (t : Nat), .int .i64 (d : Nat)] 51 (0, 0))
theorem Ps.c0 {w : World} {b : Nat} {s : ByteArray} {t d : Nat} (h : Ps w b s t d) : w.cell? ⟨b, 0, none⟩ = some (.string s) := by unfold Ps at h; simp [World.cell?, h]
theorem Ps.c1 {w : World} {b : Nat} {s : ByteArray} {t d : Nat} (h : Ps w b s t d) : w.cell? ⟨b, 1, none⟩ = some (.int .i64 (t : Nat)) := by unfold Ps at h; simp [World.cell?, h]
theorem Ps.c2 {w : World} {b : Nat} {s : ByteArray} {t d : Nat} (h : Ps w b s t d) : w.cell? ⟨b, 2, none⟩ = some (.int .i64 (d : Nat)) := by unfold Ps at h; simp [World.cell?, h]
theorem Ps.fr {w : World} {b : Nat} {s : ByteArray} {t d i : Nat} (h : Ps w b s t d) : w.frozen? ⟨b, i, none⟩ = false := by unfold Ps at h; simp [World.frozen?, h]
theorem Ps.lt {w : World} {b : Nat} {s : ByteArray} {t d : Nat} (h : Ps w b s t d) : b < w.heap.size := lt_of_block h
theorem Ps.new {w w' : World} {b : Nat} {s : ByteArray} {t d : Nat} (h : Ps w b s t d) (k : Touch (fun _ => False) w w') : Ps w' b s t d := (k.block b h.lt id).trans h
theorem Ps.set {w : World} {b : Nat} {s : ByteArray} {t d : Nat} (h : Ps w b s t d) (t' : Nat) : Ps (w.setCell ⟨b, 1, none⟩ (.int .i64 (t' : Nat))) b s t' d := by
  have := block_set h 1 (.int .i64 (t' : Nat))
  exact this
/-- The byte at a place; -1: there is none. -/
def lk (s : ByteArray) (t : Nat) : Int := match s.data.toList[t]? with
  | some c => (c.toNat : Int)
  | none => -1
set_option maxRecDepth 100000 in
set_option maxHeartbeats 4000000 in
theorem look_any (b : Nat) (s : ByteArray) (t d : Nat) (w : World) (h : Ps w b s t d) (_hs : s.size ≤ 1048576) (_ht : t ≤ s.size) :
    Calls Tryd.prog 33 #[.pointer (some ⟨b, 0, none⟩)] w fun e w' => e = .returned (.int .i64 (lk s t)) ∧ Touch (fun _ => False) w w' := by
  have c0 := h.c0
  have c1 := h.c1
  clear h
  by_cases hlt : t < s.size
  · have e : lk s t = (s[t].toNat : Int) := by unfold lk; rw [at_opt s t hlt]
    rw [e]
    clear e
    have hltI : (t : Int) < (s.size : Int) := by omega
    have hx : s[t].toNat < 256 := s[t].toNat_lt
    go_enter Tryd.func33, Tryd.ntmps33
    go_wp2_with fail
    go_quiet (fail)
    go_wp2_with fail
    go_quiet (fail)
    go_wp2
    go_ret
    exact ⟨rfl, ((Touch.refl _ _).drewN _).drewN _⟩
  · have e : lk s t = -1 := by unfold lk; rw [List.getElem?_eq_none (by rw [size_list]; omega)]
    rw [e]
    clear e
    have hltI : ¬ (t : Int) < (s.size : Int) := by omega
    go_enter Tryd.func33, Tryd.ntmps33
    go_wp2_with fail
    go_quiet (fail)
    go_wp2
    go_ret
    exact ⟨rfl, (Touch.refl _ _).drewN _⟩
/-- What a parser throws. -/
def thrown (c t : Nat) : Ending := .panicked [{ v := .iface 29 (.agg #[.int .i64 (c : Nat), .int .i64 (t : Nat)]), recovered := false }]
set_option maxRecDepth 100000 in
set_option maxHeartbeats 4000000 in
theorem wrong_any (b : Nat) (s : ByteArray) (t d c : Nat) (w : World) (h : Ps w b s t d) :
    Calls Tryd.prog 34 #[.pointer (some ⟨b, 0, none⟩), .int .i64 (c : Nat)] w fun e w' => e = thrown c t ∧ Touch (fun _ => False) w w' := by
  have c1 := h.c1
  clear h
  unfold thrown
  go_enter Tryd.func34, Tryd.ntmps34
  go_wp2
  exact ⟨rfl, rfl, Touch.refl _ _⟩
set_option maxRecDepth 100000 in
set_option maxHeartbeats 4000000 in
theorem take_any (b : Nat) (s : ByteArray) (t d c : Nat) (w : World) (h : Ps w b s t d) (hs : s.size ≤ 1048576) (ht : t ≤ s.size) (hc : c < 256) :
    Calls Tryd.prog 76 #[.pointer (some ⟨b, 0, none⟩), .int .u8 (c : Nat)] w fun e w' => e = .returned (.bool (decide (lk s t = (c : Int)))) ∧ Ps w' b s (if lk s t = (c : Int) then t + 1 else t) d ∧ Touch (fun k => k = b) w w' := by
  have K := hid (look_any b s t d w h hs ht)
  have HP := hid h
  clear h
  by_cases hl : lk s t = (c : Int)
  · rw [if_pos hl, decide_eq_true hl]
    rw [hl] at K
    clear hl
    go_enter Tryd.func76, Tryd.ntmps76
    go_wp2_with fail
    refine K.out.mono ?_
    rintro e w1 ⟨rfl, t1⟩
    have H1 := hid (HP.out.new t1)
    have T1 := hid t1
    clear t1 K HP
    have c1 := H1.out.c1
    have f1 := H1.out.fr (i := 1)
    go_wp2
    go_ret
    exact ⟨rfl, H1.out.set (t + 1), Touch.setCell (S := fun k => k = b) (T1.out.mono (fun _ _ e => e.elim)) (p := ⟨b, 1, none⟩) (fun _ => rfl) _⟩
  · rw [if_neg hl, decide_eq_false hl]
    have hlB : ((lk s t) != (c : Int)) = true := by simpa using hl
    generalize lk s t = x at *
    go_enter Tryd.func76, Tryd.ntmps76
    go_wp2_with fail
    refine K.out.mono ?_
    rintro e w1 ⟨rfl, t1⟩
    have H1 := hid (HP.out.new t1)
    have T1 := hid t1
    clear t1 K HP
    go_wp2
    go_ret
    exact ⟨rfl, H1.out, T1.out.mono (fun _ _ e => e.elim)⟩

/-! ### Digits -/
abbrev Bs := List UInt8
def digB (c : UInt8) : Bool := decide (48 ≤ c.toNat ∧ c.toNat ≤ 57)
theorem dig_iff (c : UInt8) : digB c = true ↔ (48 ≤ c.toNat ∧ c.toNat ≤ 57) := by
  unfold digB
  rw [decide_eq_true_eq]
/-- With how many digits a text begins. -/
def dgn : Bs → Nat
  | [] => 0
  | c :: cs => if digB c = true then dgn cs + 1 else 0
theorem dgn_le : ∀ cs : Bs, dgn cs ≤ cs.length
  | [] => Nat.le_refl _
  | c :: cs => by
    have := dgn_le cs
    rw [dgn]
    split
    · simp only [List.length_cons]; omega
    · exact Nat.zero_le _
theorem byte_at (d : ByteArray) (i : Nat) (h : i < d.size) : d.data.toList.drop i = d[i] :: d.data.toList.drop (i + 1) := by
  rw [List.drop_eq_getElem_cons (by simpa using h)]
  rfl
def digitsE (n t : Nat) : Ending := if n = 0 then thrown 20 t else .returned (.tuple #[])
set_option maxRecDepth 100000 in
set_option maxHeartbeats 4000000 in
theorem digits_any (b : Nat) (s : ByteArray) (t d : Nat) (w : World) (h : Ps w b s t d) (hs : s.size ≤ 1048576) (ht : t ≤ s.size) :
    Calls Tryd.prog 92 #[.pointer (some ⟨b, 0, none⟩)] w fun e w' => e = digitsE (dgn (s.data.toList.drop t)) t ∧ Ps w' b s (t + dgn (s.data.toList.drop t)) d ∧ Touch (fun k => k = b) w w' := by
  obtain ⟨X, hX⟩ : ∃ X, X = dgn (s.data.toList.drop t) := ⟨_, rfl⟩
  have HX := hid hX.symm
  rw [← hX]
  clear hX
  have HP := hid h
  have c1 := h.c1
  clear h
  go_enter Tryd.func92, Tryd.ntmps92
  go_wp2_with fail
  clear c1
  go_loopg [] (s.size - t) (fun gk wq => ∃ k : Nat, t + k + gk = s.size ∧ Hid (Ps wq b s (t + k) d) ∧ Hid (k + dgn (s.data.toList.drop (t + k)) = X) ∧ Hid (Touch (fun k => k = b) w wq))
  case atStart => exact ⟨0, by omega, HP, hid (by rw [Nat.zero_add]; exact HX.out), hid (Touch.refl _ _)⟩
  case round =>
    obtain ⟨k, hk, HK, HD, TW⟩ := hrel
    have K := hid (fun w' (hp : Ps w' b s (t + k) d) => look_any b s (t + k) d w' hp hs (by omega))
    by_cases hlt : t + k < s.size
    · have el : lk s (t + k) = (s[t + k].toNat : Int) := by unfold lk; rw [at_opt s _ hlt]
      rw [el] at K
      rw [byte_at s (t + k) hlt, dgn] at HD
      have HDG := hid (dig_iff s[t + k])
      obtain ⟨x, hxe⟩ : ∃ x : Nat, x = s[t + k].toNat := ⟨_, rfl⟩
      rw [← hxe] at HDG K
      clear el
      by_cases hd : digB s[t + k] = true
      · rw [if_pos hd] at HD
        have hr := HDG.out.1 hd
        have h1 : (48 : Int) ≤ (x : Int) := by omega
        have h2 : (x : Int) ≤ 57 := by omega
        clear hd hxe
        go_wp2_with fail
        refine (K.out _ HK.out).mono ?_
        rintro e w1 ⟨rfl, t1⟩
        have H1 := hid (HK.out.new t1)
        have T1 := hid (TW.out.trans t1 (fun _ _ e => e.elim))
        clear t1 HK TW
        go_wp2_with fail
        refine (K.out _ H1.out).mono ?_
        rintro e w2 ⟨rfl, t2⟩
        have H2 := hid (H1.out.new t2)
        have T2 := hid (T1.out.trans t2 (fun _ _ e => e.elim))
        clear t2 H1 T1 K
        have c1 := H2.out.c1
        have f1 := H2.out.fr (i := 1)
        go_wp2
        have e1 : ((t + (k + 1) : Nat) : Int) = (t : Int) + (k : Int) + 1 := by omega
        have H3 := hid (H2.out.set (t + (k + 1)))
        rw [e1] at H3
        have T3 := hid (Touch.setCell (S := fun k => k = b) T2.out (p := ⟨b, 1, none⟩) (fun _ => rfl) (.int .i64 ((t : Int) + (k : Int) + 1)))
        go_roundg (gk - 1)
        case measure => omega
        case rel => exact ⟨k + 1, by omega, H3, hid (by have := HD.out; rw [show t + (k + 1) = t + k + 1 by omega]; omega), T3⟩
      · rw [if_neg hd, Nat.add_zero] at HD
        have HNR := hid (show ¬ (48 ≤ x ∧ x ≤ 57) from fun h => hd (HDG.out.2 h))
        clear hd hxe
        by_cases h1 : (48 : Int) ≤ (x : Int)
        · have h2 : ¬ (x : Int) ≤ 57 := by
            have := HNR.out
            omega
          go_wp2_with fail
          refine (K.out _ HK.out).mono ?_
          rintro e w1 ⟨rfl, t1⟩
          have H1 := hid (HK.out.new t1)
          have T1 := hid (TW.out.trans t1 (fun _ _ e => e.elim))
          clear t1 HK TW
          go_wp2_with fail
          refine (K.out _ H1.out).mono ?_
          rintro e w2 ⟨rfl, t2⟩
          have HL := hid (H1.out.new t2)
          have TL := hid (T1.out.trans t2 (fun _ _ e => e.elim))
          clear t2 H1 T1 K
          have HE := hid (show k = X from by have := HD.out; omega)
          clear HD
          by_cases hk0 : k = 0
          · subst hk0
            have KW := hid (wrong_any b s t d 20 _ (by simpa using HL.out))
            unfold thrown at KW
            have cL := HL.out.c1
            rw [Nat.add_zero] at cL
            go_wp2_with fail
            refine KW.out.mono ?_
            rintro e w5 ⟨rfl, t5⟩
            have T5 := hid (TL.out.trans t5 (fun _ _ e => e.elim))
            have H5 := hid (HL.out.new t5)
            clear t5
            go_wp2
            exact ⟨rfl, by rw [← HE.out]; rfl, by rw [← HE.out]; exact H5.out, T5.out⟩
          · have cL := HL.out.c1
            have hkI : ¬ (t : Int) + (k : Int) = (t : Int) := by omega
            have hkB : ((t : Int) + (k : Int) == (t : Int)) = false := beq_eq_false_iff_ne.2 hkI
            go_wp2
            go_end0
            exact ⟨by rw [← HE.out]; exact (if_neg hk0).symm, by rw [← HE.out]; exact HL.out, TL.out⟩
        · go_wp2_with fail
          refine (K.out _ HK.out).mono ?_
          rintro e w1 ⟨rfl, t1⟩
          have HL := hid (HK.out.new t1)
          have TL := hid (TW.out.trans t1 (fun _ _ e => e.elim))
          clear t1 HK TW K
          have HE := hid (show k = X from by have := HD.out; omega)
          clear HD
          by_cases hk0 : k = 0
          · subst hk0
            have KW := hid (wrong_any b s t d 20 _ (by simpa using HL.out))
            unfold thrown at KW
            have cL := HL.out.c1
            rw [Nat.add_zero] at cL
            go_wp2_with fail
            refine KW.out.mono ?_
            rintro e w5 ⟨rfl, t5⟩
            have T5 := hid (TL.out.trans t5 (fun _ _ e => e.elim))
            have H5 := hid (HL.out.new t5)
            clear t5
            go_wp2
            exact ⟨rfl, by rw [← HE.out]; rfl, by rw [← HE.out]; exact H5.out, T5.out⟩
          · have cL := HL.out.c1
            have hkI : ¬ (t : Int) + (k : Int) = (t : Int) := by omega
            have hkB : ((t : Int) + (k : Int) == (t : Int)) = false := beq_eq_false_iff_ne.2 hkI
            go_wp2
            go_end0
            exact ⟨by rw [← HE.out]; exact (if_neg hk0).symm, by rw [← HE.out]; exact HL.out, TL.out⟩
    · have el : lk s (t + k) = -1 := by unfold lk; rw [List.getElem?_eq_none (by rw [size_list]; omega)]
      rw [el] at K
      rw [List.drop_eq_nil_of_le (by rw [size_list]; omega), dgn, Nat.add_zero] at HD
      clear el
      go_wp2_with fail
      refine (K.out _ HK.out).mono ?_
      rintro e w1 ⟨rfl, t1⟩
      have HL := hid (HK.out.new t1)
      have TL := hid (TW.out.trans t1 (fun _ _ e => e.elim))
      clear t1 HK TW K
      have HE := hid (show k = X from by have := HD.out; omega)
      clear HD
      by_cases hk0 : k = 0
      · subst hk0
        have KW := hid (wrong_any b s t d 20 _ (by simpa using HL.out))
        unfold thrown at KW
        have cL := HL.out.c1
        rw [Nat.add_zero] at cL
        go_wp2_with fail
        refine KW.out.mono ?_
        rintro e w5 ⟨rfl, t5⟩
        have T5 := hid (TL.out.trans t5 (fun _ _ e => e.elim))
        have H5 := hid (HL.out.new t5)
        clear t5
        go_wp2
        exact ⟨rfl, by rw [← HE.out]; rfl, by rw [← HE.out]; exact H5.out, T5.out⟩
      · have cL := HL.out.c1
        have hkI : ¬ (t : Int) + (k : Int) = (t : Int) := by omega
        have hkB : ((t : Int) + (k : Int) == (t : Int)) = false := beq_eq_false_iff_ne.2 hkI
        go_wp2
        go_end0
        exact ⟨by rw [← HE.out]; exact (if_neg hk0).symm, by rw [← HE.out]; exact HL.out, TL.out⟩
end Go.Proofs.YtabhlhgfacpohaaDoor
