/- A parser of JSON: blanks, of any text; conditions: as told. -/
import Derived.Test.YtabhlhgfacpohaaDoorVb
namespace Go.Proofs.YtabhlhgfacpohaaDoor
open Go.RowKit
open Go.Lib

theorem take_at (b : Nat) (s : ByteArray) (t d c : Nat) (w : World) (h : Ps w b s t d) (hs : s.size ≤ 1048576) (ht : t ≤ s.size) (hc : c < 256) (hn : lk s t = (c : Int)) :
    Calls Tryd.prog 76 #[.pointer (some ⟨b, 0, none⟩), .int .u8 (c : Nat)] w fun e w' => e = .returned (.bool true) ∧ Ps w' b s (t + 1) d ∧ Touch (fun k => k = b) w w' := by
  have k := take_any b s t d c w h hs ht hc
  rw [if_pos hn, decide_eq_true hn] at k
  exact k
set_option maxRecDepth 100000 in
set_option maxHeartbeats 8000000 in
theorem blanks_any (b : Nat) (s : ByteArray) (t d : Nat) (w : World) (h : Ps w b s t d) (hs : s.size ≤ 1048576) (ht : t ≤ s.size) :
    Calls Tryd.prog 62 #[.pointer (some ⟨b, 0, none⟩)] w fun e w' => e = .returned (.tuple #[]) ∧ Ps w' b s (bl s t) d ∧ Touch (fun k => k = b) w w' := by
  have HP := hid h
  have TW := hid (Touch.refl (fun k => k = b) w)
  obtain ⟨X, hX⟩ : ∃ X, X = bl s t := ⟨_, rfl⟩
  have HX := hid hX.symm
  rw [← hX]
  clear h hX
  go_enter Tryd.func62, Tryd.ntmps62
  go_wp2_with fail
  go_loopg [] (s.size - t) (fun gk wq => ∃ k : Nat, k + gk = s.size ∧ Hid (Ps wq b s k d) ∧ Hid (bl s k = X) ∧ Hid (Touch (fun k => k = b) w wq))
  case atStart => exact ⟨t, by omega, HP, HX, TW⟩
  case round =>
    obtain ⟨k, hk, HK, HB, TK⟩ := hrel
    clear HP TW HX
    have KY := hid (fun (c : Nat) (hc : c < 256) (hx : lk s k = (c : Int)) (w : World) (h : Ps w b s k d) => take_at b s k d c w h hs (by omega) hc hx)
    have KN := hid (fun (c : Nat) (hc : c < 256) (hx : lk s k ≠ (c : Int)) (w : World) (h : Ps w b s k d) => take_no b s k d c w h hs (by omega) hc hx)
    have HBA := hid (bl_at s k)
    have HLT := hid (fun (c : Nat) (h : lk s k = (c : Int)) => (lk_is h).1)
    generalize hx : lk s k = x at *
    clear hx
    by_cases n32 : x = ((32 : Nat) : Int)
    · go_wp2_with fail
      refine (KY.out 32 (by decide) n32 _ HK.out).mono ?_
      rintro e w1 ⟨rfl, hp, tt⟩
      have H1 := hid hp
      have T1 := hid (TK.out.trans tt (fun _ _ e => e))
      have HL := hid (HLT.out 32 n32)
      clear hp tt HK TK KY KN HLT
      go_wp2
      go_roundg (gk - 1)
      case measure => have := HL.out; omega
      case rel => exact ⟨k + 1, by have := HL.out; omega, H1, hid (by rw [← HB.out, HBA.out, if_pos (by unfold blank; omega)]), T1⟩
    by_cases n9 : x = ((9 : Nat) : Int)
    · go_wp2_with fail
      refine (KN.out 32 (by decide) n32 _ HK.out).mono ?_
      rintro e w1 ⟨rfl, hp, tt⟩
      replace HK := hid hp
      replace TK := hid (TK.out.trans tt (fun _ _ e => e))
      clear hp tt
      go_wp2_with fail
      refine (KY.out 9 (by decide) n9 _ HK.out).mono ?_
      rintro e w1 ⟨rfl, hp, tt⟩
      have H1 := hid hp
      have T1 := hid (TK.out.trans tt (fun _ _ e => e))
      have HL := hid (HLT.out 9 n9)
      clear hp tt HK TK KY KN HLT
      go_wp2
      go_roundg (gk - 1)
      case measure => have := HL.out; omega
      case rel => exact ⟨k + 1, by have := HL.out; omega, H1, hid (by rw [← HB.out, HBA.out, if_pos (by unfold blank; omega)]), T1⟩
    by_cases n10 : x = ((10 : Nat) : Int)
    · go_wp2_with fail
      refine (KN.out 32 (by decide) n32 _ HK.out).mono ?_
      rintro e w1 ⟨rfl, hp, tt⟩
      replace HK := hid hp
      replace TK := hid (TK.out.trans tt (fun _ _ e => e))
      clear hp tt
      go_wp2_with fail
      refine (KN.out 9 (by decide) n9 _ HK.out).mono ?_
      rintro e w1 ⟨rfl, hp, tt⟩
      replace HK := hid hp
      replace TK := hid (TK.out.trans tt (fun _ _ e => e))
      clear hp tt
      go_wp2_with fail
      refine (KY.out 10 (by decide) n10 _ HK.out).mono ?_
      rintro e w1 ⟨rfl, hp, tt⟩
      have H1 := hid hp
      have T1 := hid (TK.out.trans tt (fun _ _ e => e))
      have HL := hid (HLT.out 10 n10)
      clear hp tt HK TK KY KN HLT
      go_wp2
      go_roundg (gk - 1)
      case measure => have := HL.out; omega
      case rel => exact ⟨k + 1, by have := HL.out; omega, H1, hid (by rw [← HB.out, HBA.out, if_pos (by unfold blank; omega)]), T1⟩
    by_cases n13 : x = ((13 : Nat) : Int)
    · go_wp2_with fail
      refine (KN.out 32 (by decide) n32 _ HK.out).mono ?_
      rintro e w1 ⟨rfl, hp, tt⟩
      replace HK := hid hp
      replace TK := hid (TK.out.trans tt (fun _ _ e => e))
      clear hp tt
      go_wp2_with fail
      refine (KN.out 9 (by decide) n9 _ HK.out).mono ?_
      rintro e w1 ⟨rfl, hp, tt⟩
      replace HK := hid hp
      replace TK := hid (TK.out.trans tt (fun _ _ e => e))
      clear hp tt
      go_wp2_with fail
      refine (KN.out 10 (by decide) n10 _ HK.out).mono ?_
      rintro e w1 ⟨rfl, hp, tt⟩
      replace HK := hid hp
      replace TK := hid (TK.out.trans tt (fun _ _ e => e))
      clear hp tt
      go_wp2_with fail
      refine (KY.out 13 (by decide) n13 _ HK.out).mono ?_
      rintro e w1 ⟨rfl, hp, tt⟩
      have H1 := hid hp
      have T1 := hid (TK.out.trans tt (fun _ _ e => e))
      have HL := hid (HLT.out 13 n13)
      clear hp tt HK TK KY KN HLT
      go_wp2
      go_roundg (gk - 1)
      case measure => have := HL.out; omega
      case rel => exact ⟨k + 1, by have := HL.out; omega, H1, hid (by rw [← HB.out, HBA.out, if_pos (by unfold blank; omega)]), T1⟩
    go_wp2_with fail
    refine (KN.out 32 (by decide) n32 _ HK.out).mono ?_
    rintro e w1 ⟨rfl, hp, tt⟩
    replace HK := hid hp
    replace TK := hid (TK.out.trans tt (fun _ _ e => e))
    clear hp tt
    go_wp2_with fail
    refine (KN.out 9 (by decide) n9 _ HK.out).mono ?_
    rintro e w1 ⟨rfl, hp, tt⟩
    replace HK := hid hp
    replace TK := hid (TK.out.trans tt (fun _ _ e => e))
    clear hp tt
    go_wp2_with fail
    refine (KN.out 10 (by decide) n10 _ HK.out).mono ?_
    rintro e w1 ⟨rfl, hp, tt⟩
    replace HK := hid hp
    replace TK := hid (TK.out.trans tt (fun _ _ e => e))
    clear hp tt
    go_wp2_with fail
    refine (KN.out 13 (by decide) n13 _ HK.out).mono ?_
    rintro e w1 ⟨rfl, hp, tt⟩
    replace HK := hid hp
    replace TK := hid (TK.out.trans tt (fun _ _ e => e))
    clear hp tt
    go_wp2
    go_end0
    have E := HB.out
    rw [HBA.out, if_neg (by unfold blank; omega)] at E
    subst E
    exact ⟨rfl, HK.out, TK.out⟩
/-- A call as one step of a region that draws; what is thrown ends the region. -/
theorem step_call2 {P : Program} {ops : Array Oper} {o : Oper} {a : Act} {w : World} {K : Act → World → Prop} {Q : Exit → Act → World → Prop} {E : Prop} (hgd : o.guard = none) (f : FuncId) (opnds : Array Operand) (ats : Array TypeId)
    (ho : o.op = .call { callee := .value (.func f), args := opnds, argTypes := ats }) (vs : Array Value) (hvl : opnds.toList.map a.eval = vs.toList) (hen : ∀ args w, (callFunc f args).run P w = .ok (.enter f args) w)
    (R : Value → World → Prop) (R2 : List PanicEntry → World → Prop) (hc : Calls P f vs w (fun e w' => (∃ v, e = .returned v ∧ R v w') ∨ (∃ ps, e = .panicked ps ∧ R2 ps w'))) (hq : ∀ ps w', R2 ps w' → Q (.panic ps) a w') (h : ∀ v w', R v w' → K (a.put o.dst v) w') :
    if Region.wanted o (yielded ops a.tmps) = true then Oper.wp P o a w K Q else E := by
  have hw : Region.wanted o (yielded ops a.tmps) = true := by simp [Region.wanted, hgd]
  rw [if_pos hw]
  have hv : opnds.map a.eval = vs := by
    apply Array.toList_inj.1
    rw [Array.toList_map]
    exact hvl
  subst hv
  unfold Oper.wp execOp
  have e1 : a.eval (Operand.func f) = .func (.func f) #[] #[] := rfl
  simp only [ho, resolve, invoke, Sem.run_bind, Sem.run_pure, Result.andThen_ok, hen, e1, Deferred.ofValue, Array.empty_append, Array.append_empty]
  rw [Oper.upon_enter]
  refine hc.mono ?_
  rintro e w' (⟨v, rfl, hr⟩ | ⟨ps, rfl, hr⟩)
  · exact h v w' hr
  · exact hq ps w' hr
end Go.Proofs.YtabhlhgfacpohaaDoor
