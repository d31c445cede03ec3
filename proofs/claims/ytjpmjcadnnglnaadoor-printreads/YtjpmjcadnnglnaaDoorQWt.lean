/- Texts of this proof, one behind the other: what each says stands ahead of it. -/
import Derived.Test.YtjpmjcadnnglnaaDoorWs
/- The document's parser of JSON: value, of any text; conditions: as told. -/
namespace Go.Proofs.YtjpmjcadnnglnaaDoor
open Go.RowKit
open Go.Lib

def subF (s : ByteArray) : Nat → Option (Nat → JR (JV × Nat))
  | 0 => none
  | n + 1 => some fun u => valF s n u
theorem valF_is (s : ByteArray) (n : Nat) : (fun t => valF s n t) = valE s (subF s n) := by
  funext t
  cases n <;> rfl
theorem sub_fwd (s : ByteArray) (n : Nat) : ∀ f, subF s n = some f → Fwd s f := by
  intro f h
  cases n with
  | zero => cases h
  | succ n =>
    cases h
    exact valF_fwd s n
theorem err_bare (s : ByteArray) (n t : Nat) : ErrN (bareE s (subF s n) t) := by
  intro c k h
  have H : ∀ f, subF s n = some f → ∀ t, ErrN (f t) := by
    intro f h
    cases n with
    | zero => cases h
    | succ n =>
      cases h
      exact err_valF s n
  have hw : ∀ p kd t c k, wordE s p kd t = .error (c, k) → c ≠ 0 := by
    intro p kd t c k h
    unfold wordE at h
    split at h
    · cases h; decide
    · cases h
  have hn : ∀ kd cl t c k, nodeE s kd cl (subF s n) t = .error (c, k) → c ≠ 0 := by
    intro kd cl t c k h
    unfold nodeE at h
    split at h
    · cases h; decide
    · rename_i f hf
      split at h
      · rename_i e he
        cases h
        exact err_row (err_one (H f hf)) _ c k he
      · cases h
  unfold bareE at h
  split at h
  · exact hw _ _ _ _ _ h
  split at h
  · exact hw _ _ _ _ _ h
  split at h
  · exact hw _ _ _ _ _ h
  split at h
  · unfold textE at h
    split at h
    · cases h; decide
    · cases h
  split at h
  · exact hn _ _ _ _ _ h
  split at h
  · exact hn _ _ _ _ _ h
  · unfold numbE at h
    split at h
    · cases h; decide
    · cases h
theorem rvalue_n (lo b : Nat) (s : ByteArray) (hs : s.size ≤ 1048576) : ∀ n, n ≤ 32 → ValC lo b s (32 - n) (subF s n)
  | 0, _ => fun t av nv cv ds w h ht hd => rvalue_of lo b s t av nv cv ds 32 none w h hs ht hd (by omega) (fun _ => rfl) (fun f e => by cases e)
  | n + 1, hn => fun t av nv cv ds w h ht hd => by
    have IH := rvalue_n lo b s hs n (by omega)
    refine rvalue_of lo b s t av nv cv ds (32 - (n + 1)) (some fun u => valF s n u) w h hs ht hd (by omega) (fun e => by cases e) (fun f e => ?_)
    cases e
    refine ⟨by omega, ?_⟩
    rw [valF_is]
    have hD : (((32 - (n + 1) : Nat) : Int) + 1) = ((32 - n : Nat) : Int) := by omega
    intro kd cl hk t0 av nv cv ds w h1 h2 h3
    rcases hk with ⟨rfl, rfl⟩ | ⟨rfl, rfl⟩
    · exact rkids_5 lo b s (32 - n) _ hD (subF s n) IH (err_bare s n) (bare_fwd (sub_fwd s n)) (val_fwd (sub_fwd s n)) hs t0 av nv cv ds w h1 h2 h3
    · exact rkids_6 lo b s (32 - n) _ hD (subF s n) IH (err_bare s n) (bare_fwd (sub_fwd s n)) (val_fwd (sub_fwd s n)) hs t0 av nv cv ds w h1 h2 h3
/-- value, at the beginning. -/
theorem rvalue_top (lo b : Nat) (s : ByteArray) (hs : s.size ≤ 1048576) : ValC lo b s 0 (subF s 32) := rvalue_n lo b s hs 32 (Nat.le_refl _)
end Go.Proofs.YtjpmjcadnnglnaaDoor

/- The document's parser of JSON: the parts that its Parse asks once more; conditions: as told. -/
namespace Go.Proofs.YtjpmjcadnnglnaaDoor
open Go.RowKit
open Go.Lib

/-- The reader, with any root. -/
def Rz (R : Value) (w : World) (b : Nat) (s : ByteArray) (t : Nat) (V : Value) (er ea : Nat) : Prop := w.heap[b]? = some (.cells #[.string s, .int .i64 (t : Nat), V, R, .int .i64 (er : Nat), .int .i64 (ea : Nat)] 71 (0, 0))
section
variable {R : Value} {w : World} {b : Nat} {s : ByteArray} {t : Nat} {V : Value} {er ea : Nat}
theorem Rz.c0 (h : Rz R w b s t V er ea) : w.cell? ⟨b, 0, none⟩ = some (.string s) := by unfold Rz at h; simp [World.cell?, h]
theorem Rz.c1 (h : Rz R w b s t V er ea) : w.cell? ⟨b, 1, none⟩ = some (.int .i64 (t : Nat)) := by unfold Rz at h; simp [World.cell?, h]
theorem Rz.c2 (h : Rz R w b s t V er ea) : w.cell? ⟨b, 2, none⟩ = some V := by unfold Rz at h; simp [World.cell?, h]
theorem Rz.c4 (h : Rz R w b s t V er ea) : w.cell? ⟨b, 4, none⟩ = some (.int .i64 (er : Nat)) := by unfold Rz at h; simp [World.cell?, h]
theorem Rz.c5 (h : Rz R w b s t V er ea) : w.cell? ⟨b, 5, none⟩ = some (.int .i64 (ea : Nat)) := by unfold Rz at h; simp [World.cell?, h]
theorem Rz.fr {i : Nat} (h : Rz R w b s t V er ea) : w.frozen? ⟨b, i, none⟩ = false := by unfold Rz at h; simp [World.frozen?, h]
theorem Rz.lt (h : Rz R w b s t V er ea) : b < w.heap.size := lt_of_block h
theorem Rz.new {w' : World} (h : Rz R w b s t V er ea) (k : Touch (fun _ => False) w w') : Rz R w' b s t V er ea := (k.block b h.lt id).trans h
theorem Rz.at' (h : Rz R w b s t V er ea) (t' : Nat) : Rz R (w.setCell ⟨b, 1, none⟩ (.int .i64 (t' : Nat))) b s t' V er ea := block_set h 1 (.int .i64 (t' : Nat))
theorem Rz.bad (h : Rz R w b s t V er ea) (e k : Nat) : Rz R ((w.setCell ⟨b, 4, none⟩ (.int .i64 (e : Nat))).setCell ⟨b, 5, none⟩ (.int .i64 (k : Nat))) b s t V e k := block_set (block_set h 4 (.int .i64 (e : Nat))) 5 (.int .i64 (k : Nat))
end
set_option maxRecDepth 100000 in
set_option maxHeartbeats 4000000 in
theorem here_goodz (R : Value) (b : Nat) (s : ByteArray) (t : Nat) (V : Value) (w : World) (h : Rz R w b s t V 0 0) (_ht : t ≤ 2000000) (_hs : s.size ≤ 1048576) :
    Calls Tryd.prog 30 #[.pointer (some ⟨b, 0, none⟩)] w fun e w' => e = .returned (.int .i64 (lk s t)) ∧ Touch (fun _ => False) w w' := by
  have c0 := h.c0
  have c1 := h.c1
  have c4 := h.c4
  clear h
  by_cases hlt : t < s.size
  · have e : lk s t = (s[t].toNat : Int) := by unfold lk; rw [at_opt s t hlt]
    rw [e]
    clear e
    have hltI : (t : Int) < (s.size : Int) := by omega
    have hx : s[t].toNat < 256 := s[t].toNat_lt
    go_enter Tryd.func30, Tryd.ntmps30
    go_wp2_with fail
    go_quiet (fail)
    go_wp2_with fail
    go_quiet (fail)
    go_wp2
    go_ret
    exact ⟨rfl, ((Touch.refl _ _).drewN _).drewN _⟩
  · have e : lk s t = -1 := by unfold lk; rw [List.getElem?_eq_none (by rw [size_list]; omega)]
    rw [e]
    clear e
    have hltI : ¬ (t : Int) < (s.size : Int) := by omega
    go_enter Tryd.func30, Tryd.ntmps30
    go_wp2_with fail
    go_quiet (fail)
    go_wp2
    go_ret
    exact ⟨rfl, (Touch.refl _ _).drewN _⟩
set_option maxRecDepth 100000 in
set_option maxHeartbeats 4000000 in
theorem here_errz (R : Value) (b : Nat) (s : ByteArray) (t : Nat) (V : Value) (er ea : Nat) (w : World) (h : Rz R w b s t V er ea) (he : er ≠ 0) :
    Calls Tryd.prog 30 #[.pointer (some ⟨b, 0, none⟩)] w fun e w' => e = .returned (.int .i64 (-1)) ∧ Touch (fun _ => False) w w' := by
  have c4 := h.c4
  have hb : ((er : Int) != 0) = true := by simp; omega
  clear h
  go_enter Tryd.func30, Tryd.ntmps30
  go_wp2_with fail
  go_quiet (fail)
  go_wp2
  go_ret
  exact ⟨rfl, (Touch.refl _ _).drewN _⟩
set_option maxRecDepth 100000 in
set_option maxHeartbeats 4000000 in
theorem fail_goodz (R : Value) (b : Nat) (s : ByteArray) (t : Nat) (V : Value) (c : Nat) (w : World) (h : Rz R w b s t V 0 0) :
    Calls Tryd.prog 20 #[.pointer (some ⟨b, 0, none⟩), .int .i64 (c : Nat)] w fun e w' => e = .returned (.tuple #[]) ∧ Rz R w' b s t V c t ∧ Touch (fun k => k = b) w w' := by
  have HH := hid h
  have c1 := h.c1
  have c4 := h.c4
  have c5 := h.c5
  have f4 := h.fr (i := 4)
  have f5 := h.fr (i := 5)
  clear h
  go_enter Tryd.func20, Tryd.ntmps20
  go_wp2
  go_end0
  exact ⟨rfl, HH.out.bad c t, Touch.setCell (S := fun k => k = b) (Touch.setCell (S := fun k => k = b) (Touch.refl _ _) (p := ⟨b, 4, none⟩) (fun _ => rfl) _) (p := ⟨b, 5, none⟩) (fun _ => rfl) _⟩
set_option maxRecDepth 100000 in
set_option maxHeartbeats 4000000 in
theorem fail_errz (R : Value) (b : Nat) (s : ByteArray) (t : Nat) (V : Value) (er ea c : Nat) (w : World) (h : Rz R w b s t V er ea) (he : er ≠ 0) :
    Calls Tryd.prog 20 #[.pointer (some ⟨b, 0, none⟩), .int .i64 (c : Nat)] w fun e w' => e = .returned (.tuple #[]) ∧ Touch (fun _ => False) w w' := by
  have c4 := h.c4
  have hb : ((er : Int) == 0) = false := by simp; omega
  clear h
  go_enter Tryd.func20, Tryd.ntmps20
  go_wp2
  go_end0
  exact ⟨rfl, Touch.refl _ _⟩
set_option maxRecDepth 100000 in
set_option maxHeartbeats 8000000 in
theorem rblanks_goodz (R : Value) (b : Nat) (s : ByteArray) (t : Nat) (V : Value) (w : World) (h : Rz R w b s t V 0 0) (hs : s.size ≤ 1048576) (ht : t ≤ s.size) :
    Calls Tryd.prog 19 #[.pointer (some ⟨b, 0, none⟩)] w fun e w' => e = .returned (.tuple #[]) ∧ Rz R w' b s (bl s t) V 0 0 ∧ Touch (fun k => k = b) w w' := by
  have HP := hid h
  have TW := hid (Touch.refl (fun k => k = b) w)
  obtain ⟨X, hX⟩ : ∃ X, X = bl s t := ⟨_, rfl⟩
  have HX := hid hX.symm
  rw [← hX]
  clear h hX
  go_enter Tryd.func19, Tryd.ntmps19
  go_wp2_with fail
  go_loopg [] (s.size - t) (fun gk wq => ∃ k : Nat, k + gk = s.size ∧ Hid (Rz R wq b s k V 0 0) ∧ Hid (bl s k = X) ∧ Hid (Touch (fun k => k = b) w wq))
  case atStart => exact ⟨t, by omega, HP, HX, TW⟩
  case round =>
    obtain ⟨k, hk, HK, HB, TK⟩ := hrel
    clear HP TW HX
    have KH := hid (here_goodz R b s k V wr HK.out (by omega) hs)
    have HBA := hid (bl_at s k)
    have HLT := hid (fun (h : lk s k ≠ -1) => lk_in2 h)
    generalize hx : lk s k = x at *
    clear hx
    go_wp2_with fail
    refine KH.out.mono ?_
    rintro e w1 ⟨rfl, tt⟩
    have H1 := hid (HK.out.new tt)
    have T1 := hid (TK.out.trans tt (fun _ _ e => e.elim))
    clear tt KH HK TK
    have c1 := H1.out.c1
    have f1 := H1.out.fr (i := 1)
    by_cases hb : blank x
    · have HL := hid (HLT.out (by unfold blank at hb; omega))
      have hkk : k < s.size := HL.out
      have H2 := hid (H1.out.at' (k + 1))
      rw [show ((k + 1 : Nat) : Int) = (k : Int) + 1 from rfl] at H2
      have T2 := hid (Touch.setCell (S := fun k => k = b) T1.out (p := ⟨b, 1, none⟩) (fun _ => rfl) (.int .i64 ((k : Int) + 1)))
      rw [if_pos hb] at HBA
      unfold blank at hb
      rcases hb with rfl | rfl | rfl | rfl
      all_goals
        go_wp2
        go_roundg (gk - 1)
        case measure => omega
        case rel => exact ⟨k + 1, by omega, H2, hid (by rw [← HB.out, HBA.out]), T2⟩
    · rw [if_neg hb] at HBA
      have b1 : (x != 32) = true := by unfold blank at hb; simp; omega
      have b2 : (x != 9) = true := by unfold blank at hb; simp; omega
      have b3 : (x != 10) = true := by unfold blank at hb; simp; omega
      have b4 : (x != 13) = true := by unfold blank at hb; simp; omega
      clear hb HLT
      go_wp2
      first | go_end0 | (simp only [Exit.inBlock, Exit.then]; refine bodyPost_ret (results_none rfl _ _ _) rfl ?_) | refine bodyPost_ret (results_none rfl _ _ _) rfl ?_
      have E := HB.out
      rw [HBA.out] at E
      subst E
      exact ⟨rfl, H1.out, T1.out⟩
set_option maxRecDepth 100000 in
set_option maxHeartbeats 8000000 in
theorem rblanks_errz (R : Value) (b : Nat) (s : ByteArray) (t : Nat) (V : Value) (er ea : Nat) (w : World) (h : Rz R w b s t V er ea) (he : er ≠ 0) :
    Calls Tryd.prog 19 #[.pointer (some ⟨b, 0, none⟩)] w fun e w' => e = .returned (.tuple #[]) ∧ Touch (fun _ => False) w w' := by
  have KH := hid (here_errz R b s t V er ea w h he)
  go_enter Tryd.func19, Tryd.ntmps19
  go_wp2_with fail
  go_loopg [] 0 (fun gk wq => wq = w)
  case atStart => rfl
  case round =>
    subst hrel
    go_wp2_with fail
    refine KH.out.mono ?_
    rintro e w1 ⟨rfl, tt⟩
    have T1 := hid tt
    clear tt KH
    go_wp2
    first | go_end0 | (simp only [Exit.inBlock, Exit.then]; refine bodyPost_ret (results_none rfl _ _ _) rfl ?_) | refine bodyPost_ret (results_none rfl _ _ _) rfl ?_
    exact ⟨rfl, T1.out⟩
end Go.Proofs.YtjpmjcadnnglnaaDoor
