/- Texts of this proof, one behind the other: what each says stands ahead of it. -/
import Derived.Test.YtjpmjcadnnglnaaDoorQVa
import Derived.Test.YtjpmjcadnnglnaaDoorQVq
/- The document's parser of JSON: here, fail, blanks, want, run; conditions: as told. -/
namespace Go.Proofs.YtjpmjcadnnglnaaDoor
open Go.RowKit
open Go.Lib

/-- The document's reader in memory: its text, its place, its values, what is wrong and where. -/
def Rr (w : World) (b : Nat) (s : ByteArray) (t : Nat) (V : Value) (er ea : Nat) : Prop := w.heap[b]? = some (.cells #[.string s, .int .i64 (t : Nat), V, .int .i64 0, .int .i64 (er : Nat), .int .i64 (ea : Nat)] 71 (0, 0))
section
variable {w : World} {b : Nat} {s : ByteArray} {t : Nat} {V : Value} {er ea : Nat}
theorem Rr.c0 (h : Rr w b s t V er ea) : w.cell? ⟨b, 0, none⟩ = some (.string s) := by unfold Rr at h; simp [World.cell?, h]
theorem Rr.c1 (h : Rr w b s t V er ea) : w.cell? ⟨b, 1, none⟩ = some (.int .i64 (t : Nat)) := by unfold Rr at h; simp [World.cell?, h]
theorem Rr.c2 (h : Rr w b s t V er ea) : w.cell? ⟨b, 2, none⟩ = some V := by unfold Rr at h; simp [World.cell?, h]
theorem Rr.c4 (h : Rr w b s t V er ea) : w.cell? ⟨b, 4, none⟩ = some (.int .i64 (er : Nat)) := by unfold Rr at h; simp [World.cell?, h]
theorem Rr.c5 (h : Rr w b s t V er ea) : w.cell? ⟨b, 5, none⟩ = some (.int .i64 (ea : Nat)) := by unfold Rr at h; simp [World.cell?, h]
theorem Rr.fr {i : Nat} (h : Rr w b s t V er ea) : w.frozen? ⟨b, i, none⟩ = false := by unfold Rr at h; simp [World.frozen?, h]
theorem Rr.lt (h : Rr w b s t V er ea) : b < w.heap.size := lt_of_block h
theorem Rr.new {w' : World} (h : Rr w b s t V er ea) (k : Touch (fun _ => False) w w') : Rr w' b s t V er ea := (k.block b h.lt id).trans h
theorem Rr.at' (h : Rr w b s t V er ea) (t' : Nat) : Rr (w.setCell ⟨b, 1, none⟩ (.int .i64 (t' : Nat))) b s t' V er ea := block_set h 1 (.int .i64 (t' : Nat))
theorem Rr.bad (h : Rr w b s t V er ea) (e k : Nat) : Rr ((w.setCell ⟨b, 4, none⟩ (.int .i64 (e : Nat))).setCell ⟨b, 5, none⟩ (.int .i64 (k : Nat))) b s t V e k := block_set (block_set h 4 (.int .i64 (e : Nat))) 5 (.int .i64 (k : Nat))
end
set_option maxRecDepth 100000 in
set_option maxHeartbeats 4000000 in
theorem here_good (b : Nat) (s : ByteArray) (t : Nat) (V : Value) (w : World) (h : Rr w b s t V 0 0) (_ht : t ≤ 2000000) (_hs : s.size ≤ 1048576) :
    Calls Tryd.prog 30 #[.pointer (some ⟨b, 0, none⟩)] w fun e w' => e = .returned (.int .i64 (lk s t)) ∧ Touch (fun _ => False) w w' := by
  have c0 := h.c0
  have c1 := h.c1
  have c4 := h.c4
  clear h
  by_cases hlt : t < s.size
  · have e : lk s t = (s[t].toNat : Int) := by unfold lk; rw [at_opt s t hlt]
    rw [e]
    clear e
    have hltI : (t : Int) < (s.size : Int) := by omega
    have hx : s[t].toNat < 256 := s[t].toNat_lt
    go_enter Tryd.func30, Tryd.ntmps30
    go_wp2_with fail
    go_quiet (fail)
    go_wp2_with fail
    go_quiet (fail)
    go_wp2
    go_ret
    exact ⟨rfl, ((Touch.refl _ _).drewN _).drewN _⟩
  · have e : lk s t = -1 := by unfold lk; rw [List.getElem?_eq_none (by rw [size_list]; omega)]
    rw [e]
    clear e
    have hltI : ¬ (t : Int) < (s.size : Int) := by omega
    go_enter Tryd.func30, Tryd.ntmps30
    go_wp2_with fail
    go_quiet (fail)
    go_wp2
    go_ret
    exact ⟨rfl, (Touch.refl _ _).drewN _⟩
set_option maxRecDepth 100000 in
set_option maxHeartbeats 4000000 in
theorem here_err (b : Nat) (s : ByteArray) (t : Nat) (V : Value) (er ea : Nat) (w : World) (h : Rr w b s t V er ea) (he : er ≠ 0) :
    Calls Tryd.prog 30 #[.pointer (some ⟨b, 0, none⟩)] w fun e w' => e = .returned (.int .i64 (-1)) ∧ Touch (fun _ => False) w w' := by
  have c4 := h.c4
  have hb : ((er : Int) != 0) = true := by simp; omega
  clear h
  go_enter Tryd.func30, Tryd.ntmps30
  go_wp2_with fail
  go_quiet (fail)
  go_wp2
  go_ret
  exact ⟨rfl, (Touch.refl _ _).drewN _⟩
set_option maxRecDepth 100000 in
set_option maxHeartbeats 4000000 in
theorem fail_good (b : Nat) (s : ByteArray) (t : Nat) (V : Value) (c : Nat) (w : World) (h : Rr w b s t V 0 0) :
    Calls Tryd.prog 20 #[.pointer (some ⟨b, 0, none⟩), .int .i64 (c : Nat)] w fun e w' => e = .returned (.tuple #[]) ∧ Rr w' b s t V c t ∧ Touch (fun k => k = b) w w' := by
  have HH := hid h
  have c1 := h.c1
  have c4 := h.c4
  have c5 := h.c5
  have f4 := h.fr (i := 4)
  have f5 := h.fr (i := 5)
  clear h
  go_enter Tryd.func20, Tryd.ntmps20
  go_wp2
  go_end0
  exact ⟨rfl, HH.out.bad c t, Touch.setCell (S := fun k => k = b) (Touch.setCell (S := fun k => k = b) (Touch.refl _ _) (p := ⟨b, 4, none⟩) (fun _ => rfl) _) (p := ⟨b, 5, none⟩) (fun _ => rfl) _⟩
set_option maxRecDepth 100000 in
set_option maxHeartbeats 4000000 in
theorem fail_err (b : Nat) (s : ByteArray) (t : Nat) (V : Value) (er ea c : Nat) (w : World) (h : Rr w b s t V er ea) (he : er ≠ 0) :
    Calls Tryd.prog 20 #[.pointer (some ⟨b, 0, none⟩), .int .i64 (c : Nat)] w fun e w' => e = .returned (.tuple #[]) ∧ Touch (fun _ => False) w w' := by
  have c4 := h.c4
  have hb : ((er : Int) == 0) = false := by simp; omega
  clear h
  go_enter Tryd.func20, Tryd.ntmps20
  go_wp2
  go_end0
  exact ⟨rfl, Touch.refl _ _⟩
end Go.Proofs.YtjpmjcadnnglnaaDoor

/- The document's parser of JSON: blanks, want, run; conditions: as told. -/
namespace Go.Proofs.YtjpmjcadnnglnaaDoor
open Go.RowKit
open Go.Lib

set_option maxRecDepth 100000 in
set_option maxHeartbeats 8000000 in
theorem rblanks_good (b : Nat) (s : ByteArray) (t : Nat) (V : Value) (w : World) (h : Rr w b s t V 0 0) (hs : s.size ≤ 1048576) (ht : t ≤ s.size) :
    Calls Tryd.prog 19 #[.pointer (some ⟨b, 0, none⟩)] w fun e w' => e = .returned (.tuple #[]) ∧ Rr w' b s (bl s t) V 0 0 ∧ Touch (fun k => k = b) w w' := by
  have HP := hid h
  have TW := hid (Touch.refl (fun k => k = b) w)
  obtain ⟨X, hX⟩ : ∃ X, X = bl s t := ⟨_, rfl⟩
  have HX := hid hX.symm
  rw [← hX]
  clear h hX
  go_enter Tryd.func19, Tryd.ntmps19
  go_wp2_with fail
  go_loopg [] (s.size - t) (fun gk wq => ∃ k : Nat, k + gk = s.size ∧ Hid (Rr wq b s k V 0 0) ∧ Hid (bl s k = X) ∧ Hid (Touch (fun k => k = b) w wq))
  case atStart => exact ⟨t, by omega, HP, HX, TW⟩
  case round =>
    obtain ⟨k, hk, HK, HB, TK⟩ := hrel
    clear HP TW HX
    have KH := hid (here_good b s k V wr HK.out (by omega) hs)
    have HBA := hid (bl_at s k)
    have HLT := hid (fun (h : lk s k ≠ -1) => lk_in2 h)
    generalize hx : lk s k = x at *
    clear hx
    go_wp2_with fail
    refine KH.out.mono ?_
    rintro e w1 ⟨rfl, tt⟩
    have H1 := hid (HK.out.new tt)
    have T1 := hid (TK.out.trans tt (fun _ _ e => e.elim))
    clear tt KH HK TK
    have c1 := H1.out.c1
    have f1 := H1.out.fr (i := 1)
    by_cases hb : blank x
    · have HL := hid (HLT.out (by unfold blank at hb; omega))
      have hkk : k < s.size := HL.out
      have H2 := hid (H1.out.at' (k + 1))
      rw [show ((k + 1 : Nat) : Int) = (k : Int) + 1 from rfl] at H2
      have T2 := hid (Touch.setCell (S := fun k => k = b) T1.out (p := ⟨b, 1, none⟩) (fun _ => rfl) (.int .i64 ((k : Int) + 1)))
      rw [if_pos hb] at HBA
      unfold blank at hb
      rcases hb with rfl | rfl | rfl | rfl
      all_goals
        go_wp2
        go_roundg (gk - 1)
        case measure => omega
        case rel => exact ⟨k + 1, by omega, H2, hid (by rw [← HB.out, HBA.out]), T2⟩
    · rw [if_neg hb] at HBA
      have b1 : (x != 32) = true := by unfold blank at hb; simp; omega
      have b2 : (x != 9) = true := by unfold blank at hb; simp; omega
      have b3 : (x != 10) = true := by unfold blank at hb; simp; omega
      have b4 : (x != 13) = true := by unfold blank at hb; simp; omega
      clear hb HLT
      go_wp2
      first | go_end0 | (simp only [Exit.inBlock, Exit.then]; refine bodyPost_ret (results_none rfl _ _ _) rfl ?_) | refine bodyPost_ret (results_none rfl _ _ _) rfl ?_
      have E := HB.out
      rw [HBA.out] at E
      subst E
      exact ⟨rfl, H1.out, T1.out⟩
set_option maxRecDepth 100000 in
set_option maxHeartbeats 8000000 in
theorem rblanks_err (b : Nat) (s : ByteArray) (t : Nat) (V : Value) (er ea : Nat) (w : World) (h : Rr w b s t V er ea) (he : er ≠ 0) :
    Calls Tryd.prog 19 #[.pointer (some ⟨b, 0, none⟩)] w fun e w' => e = .returned (.tuple #[]) ∧ Touch (fun _ => False) w w' := by
  have KH := hid (here_err b s t V er ea w h he)
  go_enter Tryd.func19, Tryd.ntmps19
  go_wp2_with fail
  go_loopg [] 0 (fun gk wq => wq = w)
  case atStart => rfl
  case round =>
    subst hrel
    go_wp2_with fail
    refine KH.out.mono ?_
    rintro e w1 ⟨rfl, tt⟩
    have T1 := hid tt
    clear tt KH
    go_wp2
    first | go_end0 | (simp only [Exit.inBlock, Exit.then]; refine bodyPost_ret (results_none rfl _ _ _) rfl ?_) | refine bodyPost_ret (results_none rfl _ _ _) rfl ?_
    exact ⟨rfl, T1.out⟩
/-- What want leaves. -/
def WantR (s : ByteArray) (b : Nat) (V : Value) (w : World) : Except Nat Nat → Ending → World → Prop
  | .ok u, e, w' => e = .returned (.tuple #[]) ∧ Rr w' b s u V 0 0 ∧ Touch (fun k => k = b) w w'
  | .error k, e, w' => e = .returned (.tuple #[]) ∧ Rr w' b s k V 20 k ∧ Touch (fun k => k = b) w w'
set_option maxRecDepth 100000 in
set_option maxHeartbeats 8000000 in
theorem want_good (b : Nat) (s p : ByteArray) (t : Nat) (V : Value) (w : World) (h : Rr w b s t V 0 0) (hs : s.size ≤ 1048576) (ht : t ≤ s.size) (hp : p.size ≤ 1000) :
    Calls Tryd.prog 31 #[.pointer (some ⟨b, 0, none⟩), .string p] w fun e w' => WantR s b V w (needE s p.data.toList t) e w' := by
  have HP := hid h
  have TW := hid (Touch.refl (fun k => k = b) w)
  obtain ⟨X, hX⟩ : ∃ X, X = needE s p.data.toList t := ⟨_, rfl⟩
  have HX := hid hX.symm
  rw [← hX]
  clear h hX
  have hen56 : ∀ args w, (callFunc 30 args).run Tryd.prog w = .ok (.enter 30 args) w := Go.Proofs.enters_of Tryd.func30 (by kernel_rfl) rfl
  go_enter Tryd.func31, Tryd.ntmps31
  go_wp2_with fail
  go_loopg [4] p.size (fun gk v4 wq => ∃ i u : Nat, v4 = .int .i64 (i : Nat) ∧ i + gk = p.size ∧ u ≤ s.size ∧ Hid (Rr wq b s u V 0 0) ∧ Hid (needE s (p.data.toList.drop i) u = X) ∧ Hid (Touch (fun k => k = b) w wq))
  case atStart => exact ⟨0, t, rfl, by omega, ht, HP, hid HX.out, TW⟩
  case round =>
    obtain ⟨i, u, rfl, hi, hu, HK, HXK, TK⟩ := hrel
    clear HP TW HX
    by_cases hlt : i < p.size
    · have hltI : (i : Int) < (p.size : Int) := by omega
      rw [byte_at p i hlt, needE] at HXK
      obtain ⟨c, hc0⟩ : ∃ c, c = p[i] := ⟨_, rfl⟩
      rw [← hc0] at HXK
      have hix : ∀ w, (Instr.index 9 (.string p) (.int .i64 (i : Nat))).run Tryd.prog w = .ok (.int .u8 ((c.toNat : Nat) : Int)) w := fun w => by
        rw [hc0]
        simp [go_sem, hltI]
      have hx := c.toNat_lt
      clear hc0
      generalize c.toNat = cn at *
      have hwr : IntKind.i64.wrap (cn : Int) = (cn : Int) := wrap_small _ (by omega) (by omega)
      have KH := hid (show Calls Tryd.prog 30 #[.pointer (some ⟨b, 0, none⟩)] wr.drew fun e w' => ∃ v, e = .returned v ∧ (v = .int .i64 (lk s u) ∧ Touch (fun _ => False) wr w') from (here_good b s u V wr.drew (HK.out.new (Touch.refl _ _).drew) (by omega) hs).mono (fun e w' ⟨h1, h2⟩ => ⟨_, h1, rfl, (Touch.refl (fun _ => False) wr).drew.trans h2 (fun _ _ e => e)⟩))
      have HLT := hid (fun (h : lk s u ≠ -1) => lk_in2 h)
      generalize lk s u = x at *
      by_cases hc : x = (cn : Int)
      · rw [if_pos hc] at HXK
        have hul := HLT.out (by omega)
        subst hc
        go_wp2_with fail
        go_region_law (first
          | (refine step_call (by rfl) 30 _ _ (by rfl) #[.pointer (some ⟨b, 0, none⟩)] (by rfl) hen56 (fun v w' => v = .int .i64 (cn : Int) ∧ Touch (fun _ => False) wr w') KH.out ?_
             intro v w7 hr
             obtain ⟨rfl, t7⟩ := hr
             have T7 := hid t7
             clear t7))
        all_goals
          have H7 := hid (HK.out.new T7.out)
          have c1 := H7.out.c1
          have f1 := H7.out.fr (i := 1)
          go_wp2
          go_roundg (gk - 1)
          case measure => omega
          case rel =>
            have H8 := H7.out.at' (u + 1)
            rw [show ((u + 1 : Nat) : Int) = (u : Int) + 1 from rfl] at H8
            exact ⟨i + 1, u + 1, by go_num, by omega, by omega, hid H8, HXK, hid (Touch.setCell (S := fun k => k = b) (TK.out.trans T7.out (fun _ _ e => e.elim)) (p := ⟨b, 1, none⟩) (fun _ => rfl) (.int .i64 ((u : Int) + 1)))⟩
      · rw [if_neg hc] at HXK
        have hcb : (x != (cn : Int)) = true := by simpa using hc
        go_wp2_with fail
        go_region_law (first
          | (refine step_call (by rfl) 30 _ _ (by rfl) #[.pointer (some ⟨b, 0, none⟩)] (by rfl) hen56 (fun v w' => v = .int .i64 x ∧ Touch (fun _ => False) wr w') KH.out ?_
             intro v w7 hr
             obtain ⟨rfl, t7⟩ := hr
             have T7 := hid t7
             clear t7))
        all_goals
          have H7 := hid (HK.out.new T7.out)
          have KF := hid (fail_good b s u V 20 _ H7.out)
          go_wp2_with fail
          refine KF.out.mono ?_
          rintro e w8 ⟨rfl, h8, t8⟩
          have H8 := hid h8
          have T8 := hid (Touch.trans (S := fun k => k = b) (TK.out.trans T7.out (fun _ _ e => e.elim)) t8 (fun _ _ e => e))
          clear h8 t8 KF
          go_wp2
          first | go_end0 | (simp only [Exit.inBlock, Exit.then]; refine bodyPost_ret (results_none rfl _ _ _) rfl ?_) | refine bodyPost_ret (results_none rfl _ _ _) rfl ?_
          rw [← HXK.out]
          exact ⟨rfl, H8.out, T8.out⟩
    · have hltI : ¬ (i : Int) < (p.size : Int) := by omega
      rw [List.drop_eq_nil_of_le (by rw [size_list]; omega), needE] at HXK
      go_wp2
      go_end0
      rw [← HXK.out]
      exact ⟨rfl, HK.out, TK.out⟩
set_option maxRecDepth 100000 in
set_option maxHeartbeats 8000000 in
theorem want_err (b : Nat) (s p : ByteArray) (t : Nat) (V : Value) (er ea : Nat) (w : World) (h : Rr w b s t V er ea) (he : er ≠ 0) (hp : p.size ≤ 1000) :
    Calls Tryd.prog 31 #[.pointer (some ⟨b, 0, none⟩), .string p] w fun e w' => e = .returned (.tuple #[]) ∧ Touch (fun _ => False) w w' := by
  have HK := hid h
  have hen56 : ∀ args w, (callFunc 30 args).run Tryd.prog w = .ok (.enter 30 args) w := Go.Proofs.enters_of Tryd.func30 (by kernel_rfl) rfl
  have KH := hid (show Calls Tryd.prog 30 #[.pointer (some ⟨b, 0, none⟩)] w.drew fun e w' => ∃ v, e = .returned v ∧ (v = .int .i64 (-1) ∧ Touch (fun _ => False) w w') from (here_err b s t V er ea w.drew (h.new (Touch.refl _ _).drew) he).mono (fun e w' ⟨h1, h2⟩ => ⟨_, h1, rfl, (Touch.refl (fun _ => False) w).drew.trans h2 (fun _ _ e => e)⟩))
  have KF := hid (fun w' (hh : Rr w' b s t V er ea) => fail_err b s t V er ea 20 w' hh he)
  clear h
  go_enter Tryd.func31, Tryd.ntmps31
  go_wp2_with fail
  go_loopg [4] 0 (fun gk v4 wq => v4 = .int .i64 0 ∧ wq = w)
  case atStart => exact ⟨rfl, rfl⟩
  case round =>
    obtain ⟨rfl, rfl⟩ := hrel
    by_cases hlt : 0 < p.size
    · have hltI : (0 : Int) < (p.size : Int) := by omega
      obtain ⟨c, hc0⟩ : ∃ c, c = p[0] := ⟨_, rfl⟩
      have hix : ∀ w, (Instr.index 9 (.string p) (.int .i64 0)).run Tryd.prog w = .ok (.int .u8 ((c.toNat : Nat) : Int)) w := fun w => by
        rw [hc0]
        simp [go_sem, hlt]
      have hx := c.toNat_lt
      clear hc0
      generalize c.toNat = cn at *
      have hwr : IntKind.i64.wrap (cn : Int) = (cn : Int) := wrap_small _ (by omega) (by omega)
      have hcb : ((-1 : Int) != (cn : Int)) = true := by simp
      go_wp2_with fail
      go_region_law (first
        | (refine step_call (by rfl) 30 _ _ (by rfl) #[.pointer (some ⟨b, 0, none⟩)] (by rfl) hen56 (fun v w' => v = .int .i64 (-1) ∧ Touch (fun _ => False) wr w') KH.out ?_
           intro v w7 hr
           obtain ⟨rfl, t7⟩ := hr
           have T7 := hid t7
           clear t7))
      all_goals
        have H7 := hid (HK.out.new T7.out)
        have KF1 := hid (KF.out _ H7.out)
        go_wp2_with fail
        refine KF1.out.mono ?_
        rintro e w8 ⟨rfl, t8⟩
        have T8 := hid (T7.out.trans t8 (fun _ _ e => e))
        clear t8 KF1
        go_wp2
        first | go_end0 | (simp only [Exit.inBlock, Exit.then]; refine bodyPost_ret (results_none rfl _ _ _) rfl ?_) | refine bodyPost_ret (results_none rfl _ _ _) rfl ?_
        exact ⟨rfl, T8.out⟩
    · have hltI : ¬ (0 : Int) < (p.size : Int) := by omega
      go_wp2
      go_end0
      exact ⟨rfl, Touch.refl _ _⟩
end Go.Proofs.YtjpmjcadnnglnaaDoor

/- The document's parser of JSON: run, digit, unit; conditions: as told. -/
namespace Go.Proofs.YtjpmjcadnnglnaaDoor
open Go.RowKit
open Go.Lib

set_option maxRecDepth 100000 in
set_option maxHeartbeats 8000000 in
theorem run_good (b : Nat) (s : ByteArray) (t : Nat) (V : Value) (w : World) (h : Rr w b s t V 0 0) (hs : s.size ≤ 1048576) (ht : t ≤ s.size) :
    Calls Tryd.prog 50 #[.pointer (some ⟨b, 0, none⟩)] w fun e w' => WantR s b V w (dgE s t) e w' := by
  have HP := hid h
  have TW := hid (Touch.refl (fun k => k = b) w)
  obtain ⟨D, hD⟩ : ∃ D, D = dgn (s.data.toList.drop t) := ⟨_, rfl⟩
  have HD := hid hD.symm
  have HX := hid (show dgE s t = if D = 0 then .error t else .ok (t + D) from by unfold dgE; rw [← hD])
  have hdl := dgn_at s t ht
  rw [← hD] at hdl
  rw [HX.out]
  clear h hD HX
  go_enter Tryd.func50, Tryd.ntmps50
  go_wp2_with fail
  go_loopg [2] (s.size - t) (fun gk v2 wq => ∃ k : Nat, v2 = .int .i64 (k : Nat) ∧ t + k + gk = s.size ∧ Hid (Rr wq b s (t + k) V 0 0) ∧ Hid (k + dgn (s.data.toList.drop (t + k)) = D) ∧ Hid (Touch (fun k => k = b) w wq))
  case atStart => exact ⟨0, rfl, by omega, HP, hid (by rw [Nat.zero_add]; exact HD.out), TW⟩
  case round =>
    obtain ⟨k, rfl, hk, HK, HDK, TK⟩ := hrel
    clear HP TW HD
    have KH := hid (fun w' (hp : Rr w' b s (t + k) V 0 0) => here_good b s (t + k) V w' hp (by omega) hs)
    rw [dg_at] at HDK
    have HLT := hid (fun (h : lk s (t + k) ≠ -1) => lk_in2 h)
    generalize lk s (t + k) = x at *
    by_cases h1 : 48 ≤ x
    · by_cases h2 : x ≤ 57
      · rw [if_pos ⟨h1, h2⟩] at HDK
        have hl := HLT.out (by omega)
        go_wp2_with fail
        refine (KH.out _ HK.out).mono ?_
        rintro e w1 ⟨rfl, t1⟩
        have H1 := hid (HK.out.new t1)
        have T1 := hid (TK.out.trans t1 (fun _ _ e => e.elim))
        clear t1
        go_wp2_with fail
        refine (KH.out _ H1.out).mono ?_
        rintro e w2 ⟨rfl, t2⟩
        have H2 := hid (H1.out.new t2)
        have T2 := hid (T1.out.trans t2 (fun _ _ e => e.elim))
        clear t2 H1 T1 KH HK TK
        have c1 := H2.out.c1
        have f1 := H2.out.fr (i := 1)
        go_wp2
        have e1 : ((t + (k + 1) : Nat) : Int) = (t : Int) + (k : Int) + 1 := by omega
        have H3 := hid (H2.out.at' (t + (k + 1)))
        rw [e1] at H3
        have T3 := hid (Touch.setCell (S := fun k => k = b) T2.out (p := ⟨b, 1, none⟩) (fun _ => rfl) (.int .i64 ((t : Int) + (k : Int) + 1)))
        go_roundg (gk - 1)
        case measure => omega
        case rel => exact ⟨k + 1, by go_num, by omega, H3, hid (by have := HDK.out; rw [show t + (k + 1) = t + k + 1 by omega]; omega), T3⟩
      · rw [if_neg (fun e => h2 e.2)] at HDK
        go_wp2_with fail
        refine (KH.out _ HK.out).mono ?_
        rintro e w1 ⟨rfl, t1⟩
        have H1 := hid (HK.out.new t1)
        have T1 := hid (TK.out.trans t1 (fun _ _ e => e.elim))
        clear t1
        go_wp2_with fail
        refine (KH.out _ H1.out).mono ?_
        rintro e w2 ⟨rfl, t2⟩
        have H2 := hid (H1.out.new t2)
        have T2 := hid (T1.out.trans t2 (fun _ _ e => e.elim))
        clear t2 H1 T1 KH HK TK
        obtain rfl : k = D := by have := HDK.out; omega
        by_cases hz : k = 0
        · subst hz
          have KF := hid (fail_good b s (t + 0) V 20 _ H2.out)
          go_wp2_with fail
          refine KF.out.mono ?_
          rintro e w8 ⟨rfl, h8, t8⟩
          have H8 := hid h8
          have T8 := hid (T2.out.trans t8 (fun _ _ e => e))
          clear h8 t8 KF
          go_wp2
          first | go_end0 | (simp only [Exit.inBlock, Exit.then]; refine bodyPost_ret (results_none rfl _ _ _) rfl ?_) | refine bodyPost_ret (results_none rfl _ _ _) rfl ?_
          try rw [if_pos rfl]
          exact ⟨rfl, H8.out, T8.out⟩
        · have hzb : ((k : Int) == 0) = false := by simp; omega
          go_wp2
          first | go_end0 | (simp only [Exit.inBlock, Exit.then]; refine bodyPost_ret (results_none rfl _ _ _) rfl ?_) | refine bodyPost_ret (results_none rfl _ _ _) rfl ?_
          try rw [if_neg hz]
          exact ⟨rfl, H2.out, T2.out⟩
    · rw [if_neg (fun e => h1 e.1)] at HDK
      go_wp2_with fail
      refine (KH.out _ HK.out).mono ?_
      rintro e w2 ⟨rfl, t2⟩
      have H2 := hid (HK.out.new t2)
      have T2 := hid (TK.out.trans t2 (fun _ _ e => e.elim))
      clear t2 KH HK TK
      obtain rfl : k = D := by have := HDK.out; omega
      by_cases hz : k = 0
      · subst hz
        have KF := hid (fail_good b s (t + 0) V 20 _ H2.out)
        go_wp2_with fail
        refine KF.out.mono ?_
        rintro e w8 ⟨rfl, h8, t8⟩
        have H8 := hid h8
        have T8 := hid (T2.out.trans t8 (fun _ _ e => e))
        clear h8 t8 KF
        go_wp2
        first | go_end0 | (simp only [Exit.inBlock, Exit.then]; refine bodyPost_ret (results_none rfl _ _ _) rfl ?_) | refine bodyPost_ret (results_none rfl _ _ _) rfl ?_
        try rw [if_pos rfl]
        exact ⟨rfl, H8.out, T8.out⟩
      · have hzb : ((k : Int) == 0) = false := by simp; omega
        go_wp2
        first | go_end0 | (simp only [Exit.inBlock, Exit.then]; refine bodyPost_ret (results_none rfl _ _ _) rfl ?_) | refine bodyPost_ret (results_none rfl _ _ _) rfl ?_
        try rw [if_neg hz]
        exact ⟨rfl, H2.out, T2.out⟩
set_option maxRecDepth 100000 in
set_option maxHeartbeats 8000000 in
theorem run_err (b : Nat) (s : ByteArray) (t : Nat) (V : Value) (er ea : Nat) (w : World) (h : Rr w b s t V er ea) (he : er ≠ 0) :
    Calls Tryd.prog 50 #[.pointer (some ⟨b, 0, none⟩)] w fun e w' => e = .returned (.tuple #[]) ∧ Touch (fun _ => False) w w' := by
  have HK := hid h
  have KH := hid (here_err b s t V er ea w h he)
  have KF := hid (fun w' (hh : Rr w' b s t V er ea) => fail_err b s t V er ea 20 w' hh he)
  clear h
  go_enter Tryd.func50, Tryd.ntmps50
  go_wp2_with fail
  go_loopg [2] 0 (fun gk v2 wq => v2 = .int .i64 0 ∧ wq = w)
  case atStart => exact ⟨rfl, rfl⟩
  case round =>
    obtain ⟨rfl, rfl⟩ := hrel
    go_wp2_with fail
    refine KH.out.mono ?_
    rintro e w1 ⟨rfl, t1⟩
    have H1 := hid (HK.out.new t1)
    have T1 := hid t1
    clear t1 KH
    have KF1 := hid (KF.out _ H1.out)
    go_wp2_with fail
    refine KF1.out.mono ?_
    rintro e w8 ⟨rfl, t8⟩
    have T8 := hid (T1.out.trans t8 (fun _ _ e => e))
    clear t8 KF1
    go_wp2
    first | go_end0 | (simp only [Exit.inBlock, Exit.then]; refine bodyPost_ret (results_none rfl _ _ _) rfl ?_) | refine bodyPost_ret (results_none rfl _ _ _) rfl ?_
    exact ⟨rfl, T8.out⟩
set_option maxRecDepth 100000 in
set_option maxHeartbeats 4000000 in
theorem rdigit_any (x : Int) (w : World) (h1 : -1 ≤ x) (h2 : x ≤ 255) : Calls Tryd.prog 61 #[.int .i64 x] w fun e w' => e = .returned (.int .i64 (hexV x)) ∧ w' = w := by
  unfold hexV
  by_cases a1 : 48 ≤ x
  · by_cases a2 : x ≤ 57
    · rw [if_pos ⟨a1, a2⟩]
      go_enter Tryd.func61, Tryd.ntmps61
      go_wp2
      go_ret
      exact ⟨rfl, rfl⟩
    · rw [if_neg (fun e => a2 e.2)]
      by_cases b1 : 97 ≤ x
      · by_cases b2 : x ≤ 102
        · rw [if_pos ⟨b1, b2⟩]
          go_enter Tryd.func61, Tryd.ntmps61
          go_wp2
          go_ret
          exact ⟨rfl, rfl⟩
        · rw [if_neg (fun e => b2 e.2), if_neg (by omega)]
          have d1 : 65 ≤ x := by omega
          have d2 : ¬ x ≤ 70 := by omega
          go_enter Tryd.func61, Tryd.ntmps61
          go_wp2
          go_ret
          exact ⟨rfl, rfl⟩
      · rw [if_neg (fun e => b1 e.1)]
        by_cases d1 : 65 ≤ x
        · by_cases d2 : x ≤ 70
          · rw [if_pos ⟨d1, d2⟩]
            go_enter Tryd.func61, Tryd.ntmps61
            go_wp2
            go_ret
            exact ⟨rfl, rfl⟩
          · rw [if_neg (fun e => d2 e.2)]
            go_enter Tryd.func61, Tryd.ntmps61
            go_wp2
            go_ret
            exact ⟨rfl, rfl⟩
        · rw [if_neg (fun e => d1 e.1)]
          go_enter Tryd.func61, Tryd.ntmps61
          go_wp2
          go_ret
          exact ⟨rfl, rfl⟩
  · rw [if_neg (fun e => a1 e.1), if_neg (by omega), if_neg (by omega)]
    have b1 : ¬ 97 ≤ x := by omega
    have d1 : ¬ 65 ≤ x := by omega
    go_enter Tryd.func61, Tryd.ntmps61
    go_wp2
    go_ret
    exact ⟨rfl, rfl⟩
/-- What unit leaves. -/
def RUnitR (s : ByteArray) (b : Nat) (V : Value) (w : World) : Except Nat (Nat × Nat) → Ending → World → Prop
  | .ok (n, u), e, w' => e = .returned (.int .i64 (n : Nat)) ∧ Rr w' b s u V 0 0 ∧ Touch (fun k => k = b) w w'
  | .error k, e, w' => e = .returned (.int .i64 0) ∧ Rr w' b s k V 20 k ∧ Touch (fun k => k = b) w w'
set_option maxRecDepth 100000 in
set_option maxHeartbeats 8000000 in
theorem runit_good (b : Nat) (s : ByteArray) (t : Nat) (V : Value) (w : World) (h : Rr w b s t V 0 0) (hs : s.size ≤ 1048576) (ht : t ≤ s.size) :
    Calls Tryd.prog 48 #[.pointer (some ⟨b, 0, none⟩)] w fun e w' => RUnitR s b V w (unitE s t) e w' := by
  have HP := hid h
  have TW := hid (Touch.refl (fun k => k = b) w)
  obtain ⟨X, hX⟩ : ∃ X, X = unitE s t := ⟨_, rfl⟩
  have HX := hid hX.symm
  rw [← hX]
  unfold unitE at HX
  clear h hX
  go_enter Tryd.func48, Tryd.ntmps48
  go_wp2_with fail
  go_loopg [3, 4] 4 (fun gk v3 v4 wq => ∃ i n u : Nat, v3 = .int .i64 (n : Nat) ∧ v4 = .int .i64 (i : Nat) ∧ i + gk = 4 ∧ n < 16 ^ i ∧ u ≤ s.size ∧ Hid (Rr wq b s u V 0 0) ∧ Hid (unF s gk u n = X) ∧ Hid (Touch (fun k => k = b) w wq))
  case atStart => exact ⟨0, 0, t, rfl, rfl, by omega, by decide, ht, HP, HX, TW⟩
  case round =>
    obtain ⟨i, n, u, rfl, rfl, hi, hn, hu, HK, HXK, TK⟩ := hrel
    clear HP TW HX
    by_cases hl : i < 4
    · have hlI : (i : Int) < 4 := by omega
      have hp16 := pow16 i hl
      obtain ⟨g, rfl⟩ : ∃ g, gk = g + 1 := ⟨gk - 1, by omega⟩
      rw [unF] at HXK
      have KH := hid (here_good b s u V wr HK.out (by omega) hs)
      have hin := lk_in s u
      have hhx := hexV_in (lk s u)
      have HLT := hid (show ¬ hexV (lk s u) < 0 → u < s.size from hexV_lt)
      have KD := hid (fun w' => rdigit_any (lk s u) w' hin.1 hin.2)
      generalize lk s u = x at *
      go_wp2_with fail
      refine KH.out.mono ?_
      rintro e w1 ⟨rfl, t1⟩
      have H1 := hid (HK.out.new t1)
      have T1 := hid (TK.out.trans t1 (fun _ _ e => e.elim))
      clear t1 KH HK TK
      go_wp2_with fail
      refine (KD.out w1).mono ?_
      rintro e w2 ⟨rfl, rfl⟩
      clear KD
      by_cases hneg : hexV x < 0
      · rw [if_pos hneg] at HXK
        have KF := hid (fail_good b s u V 20 _ H1.out)
        generalize hexV x = y at *
        go_wp2_with fail
        refine KF.out.mono ?_
        rintro e w8 ⟨rfl, h8, t8⟩
        have H8 := hid h8
        have T8 := hid (T1.out.trans t8 (fun _ _ e => e))
        clear h8 t8 KF
        go_wp2
        go_ret
        rw [← HXK.out]
        exact ⟨rfl, H8.out, T8.out⟩
      · rw [if_neg hneg] at HXK
        have hlt := HLT.out (by omega)
        obtain ⟨y, hy⟩ : ∃ y : Nat, hexV x = (y : Int) := ⟨(hexV x).toNat, by omega⟩
        rw [hy] at HXK hhx hneg ⊢
        rw [Int.toNat_natCast] at HXK
        have c1 := H1.out.c1
        have f1 := H1.out.fr (i := 1)
        have hpp : 16 ^ (i + 1) = 16 * 16 ^ i := by rw [Nat.pow_succ, Nat.mul_comm]
        go_wp2
        go_roundg g
        case measure => omega
        case rel =>
          have H3 := H1.out.at' (u + 1)
          rw [show ((u + 1 : Nat) : Int) = (u : Int) + 1 from rfl] at H3
          exact ⟨i + 1, 16 * n + y, u + 1, by go_num, by go_num, by omega, by omega, by omega, hid H3, HXK, hid (Touch.setCell (S := fun k => k = b) T1.out (p := ⟨b, 1, none⟩) (fun _ => rfl) (.int .i64 ((u : Int) + 1)))⟩
    · have hlI : ¬ (i : Int) < 4 := by omega
      obtain rfl : gk = 0 := by omega
      rw [unF] at HXK
      go_wp2
      go_ret
      rw [← HXK.out]
      exact ⟨rfl, HK.out, TK.out⟩
end Go.Proofs.YtjpmjcadnnglnaaDoor
