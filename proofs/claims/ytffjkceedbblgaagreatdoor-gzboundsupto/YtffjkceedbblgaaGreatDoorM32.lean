/- Texts of this proof, one behind the other: what each says stands ahead of it. -/
import Derived.Test.YtffjkceedbblgaaGreatDoorM31
/- A reader of parts: the texts of a head; conditions: those told. -/
namespace Go.Proofs.YtffjkceedbblgaaGreatDoor
open Go.RowKit

theorem extra_any (b : Nat) (s : ByteArray) (t : Nat) (w : World) (r : Gr w b s t) (hs : s.size ≤ 70368744177664) (ht : t ≤ s.size) :
    Calls Tryz.prog 52 #[.pointer (some ⟨b, 0, none⟩)] w (TPost w b s (Gz.extraAt s t)) := by
  unfold Gz.extraAt
  by_cases h : s.size < t + 2
  · rw [if_pos h]
    exact extra_no1 b s t w r hs ht h
  · rw [if_neg h]
    by_cases h2 : s.size < t + 2 + Gz.num s t 2
    · rw [if_pos h2]
      exact extra_no2 b s t w r hs ht (by omega) h2
    · rw [if_neg h2]
      exact extra_yes b s t w r hs (by omega) (by omega)
theorem name_any (b : Nat) (s : ByteArray) (t : Nat) (w : World) (r : Gr w b s t) (hs : s.size ≤ 70368744177664) (ht : t ≤ s.size) :
    Calls Tryz.prog 53 #[.pointer (some ⟨b, 0, none⟩)] w (TPost w b s (Gz.nameAt s t)) := by
  unfold Gz.nameAt
  cases hz : Gz.zeroAt s t with
  | none => exact name_no1 b s t w r hs ht hz
  | some z =>
    simp only
    by_cases h : 256 < z - t
    · rw [if_pos h]
      exact name_no2 b s t z w r hs ht hz h
    · rw [if_neg h]
      exact name_yes b s t z w r hs ht hz (by omega)
theorem extra_code {s : ByteArray} {t : Nat} {x : Gz.Bad} (h : Gz.extraAt s t = .error x) : x.1 ≠ 0 := by
  unfold Gz.extraAt at h
  split at h
  · cases h; simp
  · split at h
    · cases h; simp
    · cases h
theorem name_code {s : ByteArray} {t : Nat} {x : Gz.Bad} (h : Gz.nameAt s t = .error x) : x.1 ≠ 0 := by
  unfold Gz.nameAt at h
  split at h
  · cases h; simp
  · split at h
    · cases h; simp
    · cases h
theorem blk_set {w : World} {g i : Nat} {cs : Array Value} {t : TypeId} {fr : Nat × Nat} (h : w.heap[g]? = some (.cells cs t fr)) (x : Value) : (w.setCell ⟨g, i, none⟩ x).heap[g]? = some (.cells (cs.setIfInBounds i x) t fr) := by
  have hlt := lt_of_block h
  have h' : w.heap[g] = .cells cs t fr := by simpa [Array.getElem?_eq_getElem hlt] using h
  show (w.heap.modify g _)[g]? = _
  rw [Array.getElem?_eq_getElem (by simpa using hlt), Array.getElem_modify_self, h']
  rfl
theorem blk_cell {w : World} {g : Nat} {cs : Array Value} {t : TypeId} (h : w.heap[g]? = some (.cells cs t (0, 0))) (i : Nat) : w.cell? ⟨g, i, none⟩ = cs[i]? := by simp [World.cell?, h]
theorem blk_free {w : World} {g i : Nat} {cs : Array Value} {t : TypeId} (h : w.heap[g]? = some (.cells cs t (0, 0))) : w.frozen? ⟨g, i, none⟩ = false := by simp [World.frozen?, h]
/-- A part as it lies in memory. -/
def partC (p : Gz.Part) : Array Value := #[.string p.name, .string p.comment, .string p.extra, .bool p.text, .bool p.headSum, .int .i64 (p.time : Nat), .int .i64 (p.more : Nat), .int .i64 (p.system : Nat), .string p.data]
/-- How far the texts have been taken: the reader at b, the part at pb, the fault at q7. -/
structure TxS (w wd : World) (b pb q6 q7 : Nat) (s : ByteArray) (r : Except Gz.Bad (Gz.Part × Nat)) : Prop where
  touch : Touch (fun k => k = b ∨ k = pb) w wd
  res : wd.heap[q6]? = some (.cells #[.int .i64 0, .int .i64 0] 31 (0, 0))
  ok : ∀ p t, r = .ok (p, t) → Gr wd b s t ∧ wd.heap[pb]? = some (.cells (partC p) 28 (0, 0)) ∧ wd.heap[q7]? = some (.cells #[.int .i64 0, .int .i64 0] 31 (0, 0)) ∧ t ≤ s.size
  bad : ∀ x, r = .error x → wd.heap[q7]? = some (.cells #[.int .i64 (x.1 : Nat), .int .i64 (x.2 : Nat)] 31 (0, 0)) ∧ x.1 ≠ 0
theorem flag_bits : ∀ f : Fin 32, bits .and .i64 (f.val : Int) 4 = (if f.val / 4 % 2 == 1 then 4 else 0) ∧ bits .and .i64 (f.val : Int) 8 = (if f.val / 8 % 2 == 1 then 8 else 0) ∧ bits .and .i64 (f.val : Int) 16 = (if f.val / 16 % 2 == 1 then 16 else 0) ∧
    bits .and .i64 (f.val : Int) 1 = (if f.val % 2 == 1 then 1 else 0) ∧ bits .and .i64 (f.val : Int) 2 = (if f.val / 2 % 2 == 1 then 2 else 0) := by decide +kernel
/-- One text more. -/
def withX (p : Gz.Part) : Except Gz.Bad (ByteArray × Nat) → Except Gz.Bad (Gz.Part × Nat)
  | .error x => .error x
  | .ok x => .ok ({ p with extra := x.1 }, x.2)
def withN (p : Gz.Part) : Except Gz.Bad (ByteArray × Nat) → Except Gz.Bad (Gz.Part × Nat)
  | .error x => .error x
  | .ok x => .ok ({ p with name := x.1 }, x.2)
def withC (p : Gz.Part) : Except Gz.Bad (ByteArray × Nat) → Except Gz.Bad (Gz.Part × Nat)
  | .error x => .error x
  | .ok x => .ok ({ p with comment := x.1 }, x.2)
def go2 (r : Except Gz.Bad (Gz.Part × Nat)) (g : Gz.Part → Nat → Except Gz.Bad (Gz.Part × Nat)) : Except Gz.Bad (Gz.Part × Nat) :=
  match r with
  | .error x => .error x
  | .ok x => g x.1 x.2
def stepX (s : ByteArray) (f : Nat) (p : Gz.Part) (t : Nat) : Except Gz.Bad (Gz.Part × Nat) := if f / 4 % 2 == 1 then withX p (Gz.extraAt s t) else .ok (p, t)
def stepN (s : ByteArray) (f : Nat) (p : Gz.Part) (t : Nat) : Except Gz.Bad (Gz.Part × Nat) := if f / 8 % 2 == 1 then withN p (Gz.nameAt s t) else .ok (p, t)
def stepC (s : ByteArray) (f : Nat) (p : Gz.Part) (t : Nat) : Except Gz.Bad (Gz.Part × Nat) := if f / 16 % 2 == 1 then withC p (Gz.nameAt s t) else .ok (p, t)
def textsR (s : ByteArray) (f : Nat) (p : Gz.Part) (t : Nat) : Except Gz.Bad (Gz.Part × Nat) := go2 (go2 (stepX s f p t) (stepN s f)) (stepC s f)
theorem stepX_is (s : ByteArray) (f : Nat) (p : Gz.Part) (t : Nat) (h : p.extra = ByteArray.empty) : stepX s f p t = withX p (Gz.perhaps (f / 4 % 2 == 1) t (Gz.extraAt s t)) := by
  unfold stepX Gz.perhaps
  split
  · rfl
  · cases p
    simp only at h
    subst h
    rfl
theorem stepN_is (s : ByteArray) (f : Nat) (p : Gz.Part) (t : Nat) (h : p.name = ByteArray.empty) : stepN s f p t = withN p (Gz.perhaps (f / 8 % 2 == 1) t (Gz.nameAt s t)) := by
  unfold stepN Gz.perhaps
  split
  · rfl
  · cases p
    simp only at h
    subst h
    rfl
theorem stepC_is (s : ByteArray) (f : Nat) (p : Gz.Part) (t : Nat) (h : p.comment = ByteArray.empty) : stepC s f p t = withC p (Gz.perhaps (f / 16 % 2 == 1) t (Gz.nameAt s t)) := by
  unfold stepC Gz.perhaps
  split
  · rfl
  · cases p
    simp only at h
    subst h
    rfl
theorem textsR_at (s : ByteArray) (f : Nat) (p : Gz.Part) (t : Nat) (hx : p.extra = ByteArray.empty) (hn : p.name = ByteArray.empty) (hc : p.comment = ByteArray.empty) : textsR s f p t = match Gz.textsAt s t f with
    | .error x => .error x
    | .ok (x, n, c, t') => .ok ({ p with extra := x, name := n, comment := c }, t') := by
  unfold textsR Gz.textsAt
  rw [stepX_is s f p t hx]
  cases Gz.perhaps (f / 4 % 2 == 1) t (Gz.extraAt s t) with
  | error x => rfl
  | ok x =>
    obtain ⟨x, t1⟩ := x
    simp only [withX, go2]
    rw [stepN_is s f { p with extra := x } t1 hn]
    cases Gz.perhaps (f / 8 % 2 == 1) t1 (Gz.nameAt s t1) with
    | error x => rfl
    | ok n =>
      obtain ⟨n, t2⟩ := n
      simp only [withN]
      rw [stepC_is s f { p with extra := x, name := n } t2 hc]
      cases Gz.perhaps (f / 16 % 2 == 1) t2 (Gz.nameAt s t2) with
      | error x => rfl
      | ok c => rfl
/-- A fault, or the part with its texts. -/
def XPost (w : World) (b pb : Nat) (s : ByteArray) : Except Gz.Bad (Gz.Part × Nat) → Ending → World → Prop
  | .error x, e, w' => e = .returned (.agg #[.int .i64 (x.1 : Nat), .int .i64 (x.2 : Nat)]) ∧ x.1 ≠ 0 ∧ Touch (fun k => k = b ∨ k = pb) w w'
  | .ok x, e, w' => e = .returned (.agg #[.int .i64 0, .int .i64 0]) ∧ Gr w' b s x.2 ∧ w'.heap[pb]? = some (.cells (partC x.1) 28 (0, 0)) ∧ x.2 ≤ s.size ∧ Touch (fun k => k = b ∨ k = pb) w w'
set_option maxRecDepth 100000 in
set_option maxHeartbeats 8000000 in
theorem texts_any (b pb : Nat) (s : ByteArray) (t f : Nat) (p : Gz.Part) (w : World) (r : Gr w b s t) (hp : w.heap[pb]? = some (.cells (partC p) 28 (0, 0))) (hs : s.size ≤ 70368744177664) (ht : t ≤ s.size) (hf : f ≤ 31) :
    Calls Tryz.prog 34 #[.pointer (some ⟨b, 0, none⟩), .pointer (some ⟨pb, 0, none⟩), .int .i64 (f : Nat)] w (XPost w b pb s (textsR s f p t)) := by
  obtain ⟨fb4, fb8, fb16, _, _⟩ := flag_bits ⟨f, by omega⟩
  have FL4 := hid (show bits .and .i64 (f : Int) 4 = (if f / 4 % 2 == 1 then 4 else 0) from fb4)
  have FL8 := hid (show bits .and .i64 (f : Int) 8 = (if f / 8 % 2 == 1 then 8 else 0) from fb8)
  have FL16 := hid (show bits .and .i64 (f : Int) 16 = (if f / 16 % 2 == 1 then 16 else 0) from fb16)
  clear fb4 fb8 fb16
  have HB := hid (show b < w.heap.size ∧ pb < w.heap.size ∧ b ≠ pb from ⟨r.lt, lt_of_block hp, fun e => by rw [e] at r; have := r.symm.trans hp; simp at this⟩)
  have S0 := hid (show TxS w ((w.alloc (.cells #[.int .i64 0, .int .i64 0] 31)).alloc (.cells #[.int .i64 0, .int .i64 0] 31)) b pb w.heap.size (w.heap.size + 1) s (.ok (p, t)) from by
    have T1 := (Touch.refl (fun k => k = b ∨ k = pb) w).alloc (.cells #[.int .i64 0, .int .i64 0] 31)
    have T1' := (Touch.refl (fun _ => False) w).alloc (.cells #[.int .i64 0, .int .i64 0] 31)
    have T2' := T1'.alloc (.cells #[.int .i64 0, .int .i64 0] 31)
    have hsz : (w.alloc (.cells #[.int .i64 0, .int .i64 0] 31)).heap.size = w.heap.size + 1 := by simp
    refine ⟨T1.alloc _, ?_, fun p' t' h => ?_, fun x h => by cases h⟩
    · exact (((Touch.refl (fun _ => False) (w.alloc (.cells #[.int .i64 0, .int .i64 0] 31))).alloc (.cells #[.int .i64 0, .int .i64 0] 31)).block _ (lt_of_block (two_new _ _ _)) id).trans (two_new _ _ _)
    · cases h
      exact ⟨r.new T2' id, (T2'.block _ HB.out.2.1 id).trans hp, by rw [← hsz]; exact two_new _ _ _, ht⟩)
  clear r hp
  go_enter Tryz.func34, Tryz.ntmps34
  go_upto_if 10 with fail
  generalize (w.alloc (.cells #[.int .i64 0, .int .i64 0] 31)).alloc (.cells #[.int .i64 0, .int .i64 0] 31) = w0 at *
  obtain ⟨q6, hq6⟩ : ∃ q6, q6 = w.heap.size := ⟨_, rfl⟩
  rw [← hq6] at S0 ⊢
  obtain ⟨q7, hq7⟩ : ∃ q7, q7 = q6 + 1 := ⟨_, rfl⟩
  rw [← hq7] at S0 ⊢
  have HQ := hid (show w.heap.size ≤ q6 ∧ q6 < q7 ∧ b < q6 ∧ pb < q6 ∧ b ≠ pb from ⟨by omega, by omega, by have := HB.out; omega, by have := HB.out; omega, HB.out.2.2⟩)
  clear hq6 hq7 HB
  go_cut [] (fun wd => TxS w wd b pb q6 q7 s (stepX s f p t))
  case first =>
    obtain ⟨gr, pbk, q7k, hle⟩ := S0.out.ok p t rfl
    have GRH := hid gr
    have PBH := hid pbk
    have Q7H := hid q7k
    have TLE := hid hle
    have Q6H := hid S0.out.res
    have TH := hid S0.out.touch
    clear gr pbk q7k hle S0
    obtain ⟨PP, hPP⟩ : ∃ PP, PP = p := ⟨_, rfl⟩
    subst hPP
    by_cases hfl : (f / 4 % 2 == 1) = true
    · have hb4 : bits .and .i64 (f : Int) 4 = 4 := by rw [FL4.out, if_pos hfl]
      have HFL := hid hfl
      clear hfl
      go_wp2_with fail
      refine (extra_any b s t w0 GRH.out hs TLE.out).mono ?_
      cases hr : Gz.extraAt s t with
      | error x =>
        rintro e w1 ⟨rfl, tc⟩
        have HR := hid hr
        have PB1 := hid ((tc.block pb (lt_of_block PBH.out) (fun e => by have := HQ.out; omega)).trans PBH.out)
        have Q61 := hid ((tc.block q6 (lt_of_block Q6H.out) (fun e => by have := HQ.out; omega)).trans Q6H.out)
        have Q71 := hid ((tc.block q7 (lt_of_block Q7H.out) (fun e => by have := HQ.out; omega)).trans Q7H.out)
        have TC := hid (TH.out.trans tc (fun _ _ e => .inl e))
        clear hr tc
        have j0 : w1.cell? ⟨pb, 2, none⟩ = some (.string PP.extra) := blk_cell PB1.out 2
        have jf : w1.frozen? ⟨pb, 2, none⟩ = false := blk_free PB1.out
        have Q72 := hid (show (w1.setCell ⟨pb, 2, none⟩ (.string ⟨#[]⟩)).heap[q7]? = _ from (Below.heap_setCell w1 _ _ _ (show q7 ≠ pb by have := HQ.out; omega)).trans Q71.out)
        have g0 := cell_two0 Q72.out
        have g1 := cell_two1 Q72.out
        have gf0 := free_two (i := 0) Q72.out
        have gf1 := free_two (i := 1) Q72.out
        go_wp2_with fail
        go_meet
        case rel =>
          refine ⟨?_, ?_, fun p' t' h => ?_, fun y h => ?_⟩
          · refine ftouch (TC.out.setCell (p := ⟨pb, 2, none⟩) (fun _ => .inr rfl) _) (by have := HQ.out; omega) _ _
          · rw [Below.heap_setCell _ _ _ _ (show q6 ≠ q7 by have := HQ.out; omega), Below.heap_setCell _ _ _ _ (show q6 ≠ q7 by have := HQ.out; omega), Below.heap_setCell _ _ _ _ (show q6 ≠ pb by have := HQ.out; omega)]
            exact Q61.out
          · rw [stepX, if_pos HFL.out, HR.out] at h
            cases h
          · rw [stepX, if_pos HFL.out, HR.out] at h
            cases h
            exact ⟨fset Q72.out _ _, extra_code HR.out⟩
      | ok x =>
        rintro e w1 ⟨rfl, gs⟩
        have HR := hid hr
        have TLE2 := hid (Gz.extra_in hr)
        have PB1 := hid ((gs.touch.block pb (lt_of_block PBH.out) (fun e => by have := HQ.out; omega)).trans PBH.out)
        have Q61 := hid ((gs.touch.block q6 (lt_of_block Q6H.out) (fun e => by have := HQ.out; omega)).trans Q6H.out)
        have Q71 := hid ((gs.touch.block q7 (lt_of_block Q7H.out) (fun e => by have := HQ.out; omega)).trans Q7H.out)
        have TC := hid (TH.out.trans gs.touch (fun _ _ e => .inl e))
        have GR1 := hid gs.gr
        clear hr gs
        obtain ⟨x, tx⟩ := x
        have j0 : w1.cell? ⟨pb, 2, none⟩ = some (.string PP.extra) := blk_cell PB1.out 2
        have jf : w1.frozen? ⟨pb, 2, none⟩ = false := blk_free PB1.out
        have Q72 := hid (show (w1.setCell ⟨pb, 2, none⟩ (.string x)).heap[q7]? = _ from (Below.heap_setCell w1 _ _ _ (show q7 ≠ pb by have := HQ.out; omega)).trans Q71.out)
        have g0 := cell_two0 Q72.out
        have g1 := cell_two1 Q72.out
        have gf0 := free_two (i := 0) Q72.out
        have gf1 := free_two (i := 1) Q72.out
        go_wp2_with fail
        go_meet
        case rel =>
          refine ⟨?_, ?_, fun p' t' h => ?_, fun y h => ?_⟩
          · refine ftouch (TC.out.setCell (p := ⟨pb, 2, none⟩) (fun _ => .inr rfl) _) (by have := HQ.out; omega) _ _
          · rw [Below.heap_setCell _ _ _ _ (show q6 ≠ q7 by have := HQ.out; omega), Below.heap_setCell _ _ _ _ (show q6 ≠ q7 by have := HQ.out; omega), Below.heap_setCell _ _ _ _ (show q6 ≠ pb by have := HQ.out; omega)]
            exact Q61.out
          · rw [stepX, if_pos HFL.out, HR.out] at h
            cases h
            refine ⟨?_, ?_, fset Q72.out _ _, TLE2.out.2⟩
            · unfold Gr
              rw [Below.heap_setCell _ _ _ _ (show b ≠ q7 by have := HQ.out; omega), Below.heap_setCell _ _ _ _ (show b ≠ q7 by have := HQ.out; omega), Below.heap_setCell _ _ _ _ (show b ≠ pb by have := HQ.out; omega)]
              exact GR1.out
            · rw [Below.heap_setCell _ _ _ _ (show pb ≠ q7 by have := HQ.out; omega), Below.heap_setCell _ _ _ _ (show pb ≠ q7 by have := HQ.out; omega)]
              exact blk_set PB1.out _
          · rw [stepX, if_pos HFL.out, HR.out] at h
            cases h
    · have hb4 : bits .and .i64 (f : Int) 4 = 0 := by rw [FL4.out, if_neg hfl]
      have HFL := hid hfl
      clear hfl
      go_wp2_with fail
      go_meet
      case rel =>
        refine ⟨TH.out, Q6H.out, fun p' t' h => ?_, fun y h => ?_⟩
        · rw [stepX, if_neg HFL.out] at h
          cases h
          exact ⟨GRH.out, PBH.out, Q7H.out, TLE.out⟩
        · rw [stepX, if_neg HFL.out] at h
          cases h
  clear S0
  have S1 := hid hcut
  obtain ⟨w10, hw⟩ : ∃ w10, w10 = wc := ⟨_, rfl⟩
  rw [← hw] at S1 ⊢
  clear hw hcut
  cases hx1 : stepX s f p t with
  | error x =>
    have HX1 := hid hx1
    clear hx1
    have q7k := (S1.out.bad x HX1.out).1
    have q6k := S1.out.res
    have HX0 := hid (S1.out.bad x HX1.out).2
    have hx0 : ((x.1 : Int) == 0) = false := by have := HX0.out; simp; omega
    have TH := hid S1.out.touch
    have k0 := cell_two0 q7k
    have k1 := cell_two1 q7k
    have g0 := cell_two0 q6k
    have g1 := cell_two1 q6k
    have gf0 := free_two (i := 0) q6k
    have gf1 := free_two (i := 1) q6k
    have Q6K := hid q6k
    clear q7k q6k S1
    go_wp2
    refine bodyPost_ret (results_c rfl _ _ q6 31 _ (0, 0) _ rfl (fset Q6K.out _ _) Tryz.underlying31 rfl (by kernel_rfl)) rfl ?_
    show XPost w b pb s (textsR s f p t) _ _
    rw [show textsR s f p t = .error x by unfold textsR; rw [HX1.out]; rfl]
    exact ⟨rfl, HX0.out, ftouch TH.out HQ.out.1 _ _⟩
  | ok pt =>
  obtain ⟨p1, t1⟩ := pt
  have HX1 := hid hx1
  clear hx1
  have c7 := cell_two0 (S1.out.ok p1 t1 HX1.out).2.2.1
  go_upto_if 26 with fail
  clear c7
  go_cut [] (fun wd => TxS w wd b pb q6 q7 s (stepN s f p1 t1))
  case first =>
    obtain ⟨gr, pbk, q7k, hle⟩ := S1.out.ok p1 t1 HX1.out
    have GRH := hid gr
    have PBH := hid pbk
    have Q7H := hid q7k
    have TLE := hid hle
    have Q6H := hid S1.out.res
    have TH := hid S1.out.touch
    have c7 := cell_two0 q7k
    clear gr pbk q7k hle S1
    obtain ⟨PP, hPP⟩ : ∃ PP, PP = p1 := ⟨_, rfl⟩
    subst hPP
    by_cases hfl : (f / 8 % 2 == 1) = true
    · have hb8 : bits .and .i64 (f : Int) 8 = 8 := by rw [FL8.out, if_pos hfl]
      have HFL := hid hfl
      clear hfl
      go_wp2_with fail
      refine (name_any b s t1 w10 GRH.out hs TLE.out).mono ?_
      cases hr : Gz.nameAt s t1 with
      | error x =>
        rintro e w1 ⟨rfl, tc⟩
        have HR := hid hr
        have PB1 := hid ((tc.block pb (lt_of_block PBH.out) (fun e => by have := HQ.out; omega)).trans PBH.out)
        have Q61 := hid ((tc.block q6 (lt_of_block Q6H.out) (fun e => by have := HQ.out; omega)).trans Q6H.out)
        have Q71 := hid ((tc.block q7 (lt_of_block Q7H.out) (fun e => by have := HQ.out; omega)).trans Q7H.out)
        have TC := hid (TH.out.trans tc (fun _ _ e => .inl e))
        clear hr tc
        have j0 : w1.cell? ⟨pb, 0, none⟩ = some (.string PP.name) := blk_cell PB1.out 0
        have jf : w1.frozen? ⟨pb, 0, none⟩ = false := blk_free PB1.out
        have Q72 := hid (show (w1.setCell ⟨pb, 0, none⟩ (.string ⟨#[]⟩)).heap[q7]? = _ from (Below.heap_setCell w1 _ _ _ (show q7 ≠ pb by have := HQ.out; omega)).trans Q71.out)
        have g0 := cell_two0 Q72.out
        have g1 := cell_two1 Q72.out
        have gf0 := free_two (i := 0) Q72.out
        have gf1 := free_two (i := 1) Q72.out
        go_wp2_with fail
        go_meet
        case rel =>
          refine ⟨?_, ?_, fun p' t' h => ?_, fun y h => ?_⟩
          · refine ftouch (TC.out.setCell (p := ⟨pb, 0, none⟩) (fun _ => .inr rfl) _) (by have := HQ.out; omega) _ _
          · rw [Below.heap_setCell _ _ _ _ (show q6 ≠ q7 by have := HQ.out; omega), Below.heap_setCell _ _ _ _ (show q6 ≠ q7 by have := HQ.out; omega), Below.heap_setCell _ _ _ _ (show q6 ≠ pb by have := HQ.out; omega)]
            exact Q61.out
          · rw [stepN, if_pos HFL.out, HR.out] at h
            cases h
          · rw [stepN, if_pos HFL.out, HR.out] at h
            cases h
            exact ⟨fset Q72.out _ _, name_code HR.out⟩
      | ok x =>
        rintro e w1 ⟨rfl, gs⟩
        have HR := hid hr
        have TLE2 := hid (Gz.name_in hr)
        have PB1 := hid ((gs.touch.block pb (lt_of_block PBH.out) (fun e => by have := HQ.out; omega)).trans PBH.out)
        have Q61 := hid ((gs.touch.block q6 (lt_of_block Q6H.out) (fun e => by have := HQ.out; omega)).trans Q6H.out)
        have Q71 := hid ((gs.touch.block q7 (lt_of_block Q7H.out) (fun e => by have := HQ.out; omega)).trans Q7H.out)
        have TC := hid (TH.out.trans gs.touch (fun _ _ e => .inl e))
        have GR1 := hid gs.gr
        clear hr gs
        obtain ⟨x, tx⟩ := x
        have j0 : w1.cell? ⟨pb, 0, none⟩ = some (.string PP.name) := blk_cell PB1.out 0
        have jf : w1.frozen? ⟨pb, 0, none⟩ = false := blk_free PB1.out
        have Q72 := hid (show (w1.setCell ⟨pb, 0, none⟩ (.string x)).heap[q7]? = _ from (Below.heap_setCell w1 _ _ _ (show q7 ≠ pb by have := HQ.out; omega)).trans Q71.out)
        have g0 := cell_two0 Q72.out
        have g1 := cell_two1 Q72.out
        have gf0 := free_two (i := 0) Q72.out
        have gf1 := free_two (i := 1) Q72.out
        go_wp2_with fail
        go_meet
        case rel =>
          refine ⟨?_, ?_, fun p' t' h => ?_, fun y h => ?_⟩
          · refine ftouch (TC.out.setCell (p := ⟨pb, 0, none⟩) (fun _ => .inr rfl) _) (by have := HQ.out; omega) _ _
          · rw [Below.heap_setCell _ _ _ _ (show q6 ≠ q7 by have := HQ.out; omega), Below.heap_setCell _ _ _ _ (show q6 ≠ q7 by have := HQ.out; omega), Below.heap_setCell _ _ _ _ (show q6 ≠ pb by have := HQ.out; omega)]
            exact Q61.out
          · rw [stepN, if_pos HFL.out, HR.out] at h
            cases h
            refine ⟨?_, ?_, fset Q72.out _ _, TLE2.out.2.1⟩
            · unfold Gr
              rw [Below.heap_setCell _ _ _ _ (show b ≠ q7 by have := HQ.out; omega), Below.heap_setCell _ _ _ _ (show b ≠ q7 by have := HQ.out; omega), Below.heap_setCell _ _ _ _ (show b ≠ pb by have := HQ.out; omega)]
              exact GR1.out
            · rw [Below.heap_setCell _ _ _ _ (show pb ≠ q7 by have := HQ.out; omega), Below.heap_setCell _ _ _ _ (show pb ≠ q7 by have := HQ.out; omega)]
              exact blk_set PB1.out _
          · rw [stepN, if_pos HFL.out, HR.out] at h
            cases h
    · have hb8 : bits .and .i64 (f : Int) 8 = 0 := by rw [FL8.out, if_neg hfl]
      have HFL := hid hfl
      clear hfl
      go_wp2_with fail
      go_meet
      case rel =>
        refine ⟨TH.out, Q6H.out, fun p' t' h => ?_, fun y h => ?_⟩
        · rw [stepN, if_neg HFL.out] at h
          cases h
          exact ⟨GRH.out, PBH.out, Q7H.out, TLE.out⟩
        · rw [stepN, if_neg HFL.out] at h
          cases h
  clear S1
  have S2 := hid hcut
  obtain ⟨w20, hw⟩ : ∃ w20, w20 = wc := ⟨_, rfl⟩
  rw [← hw] at S2 ⊢
  clear hw hcut
  cases hx2 : stepN s f p1 t1 with
  | error x =>
    have HX2 := hid hx2
    clear hx2
    have q7k := (S2.out.bad x HX2.out).1
    have q6k := S2.out.res
    have HX0 := hid (S2.out.bad x HX2.out).2
    have hx0 : ((x.1 : Int) == 0) = false := by have := HX0.out; simp; omega
    have TH := hid S2.out.touch
    have k0 := cell_two0 q7k
    have k1 := cell_two1 q7k
    have g0 := cell_two0 q6k
    have g1 := cell_two1 q6k
    have gf0 := free_two (i := 0) q6k
    have gf1 := free_two (i := 1) q6k
    have Q6K := hid q6k
    clear q7k q6k S2
    go_wp2
    refine bodyPost_ret (results_c rfl _ _ q6 31 _ (0, 0) _ rfl (fset Q6K.out _ _) Tryz.underlying31 rfl (by kernel_rfl)) rfl ?_
    show XPost w b pb s (textsR s f p t) _ _
    rw [show textsR s f p t = .error x by unfold textsR; rw [HX1.out]; show go2 (stepN s f p1 t1) _ = _; rw [HX2.out]; rfl]
    exact ⟨rfl, HX0.out, ftouch TH.out HQ.out.1 _ _⟩
  | ok pt =>
  obtain ⟨p2, t2⟩ := pt
  have HX2 := hid hx2
  clear hx2
  have c7 := cell_two0 (S2.out.ok p2 t2 HX2.out).2.2.1
  go_upto_if 42 with fail
  clear c7
  go_cut [] (fun wd => TxS w wd b pb q6 q7 s (stepC s f p2 t2))
  case first =>
    obtain ⟨gr, pbk, q7k, hle⟩ := S2.out.ok p2 t2 HX2.out
    have GRH := hid gr
    have PBH := hid pbk
    have Q7H := hid q7k
    have TLE := hid hle
    have Q6H := hid S2.out.res
    have TH := hid S2.out.touch
    have c7 := cell_two0 q7k
    clear gr pbk q7k hle S2
    obtain ⟨PP, hPP⟩ : ∃ PP, PP = p2 := ⟨_, rfl⟩
    subst hPP
    by_cases hfl : (f / 16 % 2 == 1) = true
    · have hb16 : bits .and .i64 (f : Int) 16 = 16 := by rw [FL16.out, if_pos hfl]
      have HFL := hid hfl
      clear hfl
      go_wp2_with fail
      refine (name_any b s t2 w20 GRH.out hs TLE.out).mono ?_
      cases hr : Gz.nameAt s t2 with
      | error x =>
        rintro e w1 ⟨rfl, tc⟩
        have HR := hid hr
        have PB1 := hid ((tc.block pb (lt_of_block PBH.out) (fun e => by have := HQ.out; omega)).trans PBH.out)
        have Q61 := hid ((tc.block q6 (lt_of_block Q6H.out) (fun e => by have := HQ.out; omega)).trans Q6H.out)
        have Q71 := hid ((tc.block q7 (lt_of_block Q7H.out) (fun e => by have := HQ.out; omega)).trans Q7H.out)
        have TC := hid (TH.out.trans tc (fun _ _ e => .inl e))
        clear hr tc
        have j0 : w1.cell? ⟨pb, 1, none⟩ = some (.string PP.comment) := blk_cell PB1.out 1
        have jf : w1.frozen? ⟨pb, 1, none⟩ = false := blk_free PB1.out
        have Q72 := hid (show (w1.setCell ⟨pb, 1, none⟩ (.string ⟨#[]⟩)).heap[q7]? = _ from (Below.heap_setCell w1 _ _ _ (show q7 ≠ pb by have := HQ.out; omega)).trans Q71.out)
        have g0 := cell_two0 Q72.out
        have g1 := cell_two1 Q72.out
        have gf0 := free_two (i := 0) Q72.out
        have gf1 := free_two (i := 1) Q72.out
        go_wp2_with fail
        go_meet
        case rel =>
          refine ⟨?_, ?_, fun p' t' h => ?_, fun y h => ?_⟩
          · refine ftouch (TC.out.setCell (p := ⟨pb, 1, none⟩) (fun _ => .inr rfl) _) (by have := HQ.out; omega) _ _
          · rw [Below.heap_setCell _ _ _ _ (show q6 ≠ q7 by have := HQ.out; omega), Below.heap_setCell _ _ _ _ (show q6 ≠ q7 by have := HQ.out; omega), Below.heap_setCell _ _ _ _ (show q6 ≠ pb by have := HQ.out; omega)]
            exact Q61.out
          · rw [stepC, if_pos HFL.out, HR.out] at h
            cases h
          · rw [stepC, if_pos HFL.out, HR.out] at h
            cases h
            exact ⟨fset Q72.out _ _, name_code HR.out⟩
      | ok x =>
        rintro e w1 ⟨rfl, gs⟩
        have HR := hid hr
        have TLE2 := hid (Gz.name_in hr)
        have PB1 := hid ((gs.touch.block pb (lt_of_block PBH.out) (fun e => by have := HQ.out; omega)).trans PBH.out)
        have Q61 := hid ((gs.touch.block q6 (lt_of_block Q6H.out) (fun e => by have := HQ.out; omega)).trans Q6H.out)
        have Q71 := hid ((gs.touch.block q7 (lt_of_block Q7H.out) (fun e => by have := HQ.out; omega)).trans Q7H.out)
        have TC := hid (TH.out.trans gs.touch (fun _ _ e => .inl e))
        have GR1 := hid gs.gr
        clear hr gs
        obtain ⟨x, tx⟩ := x
        have j0 : w1.cell? ⟨pb, 1, none⟩ = some (.string PP.comment) := blk_cell PB1.out 1
        have jf : w1.frozen? ⟨pb, 1, none⟩ = false := blk_free PB1.out
        have Q72 := hid (show (w1.setCell ⟨pb, 1, none⟩ (.string x)).heap[q7]? = _ from (Below.heap_setCell w1 _ _ _ (show q7 ≠ pb by have := HQ.out; omega)).trans Q71.out)
        have g0 := cell_two0 Q72.out
        have g1 := cell_two1 Q72.out
        have gf0 := free_two (i := 0) Q72.out
        have gf1 := free_two (i := 1) Q72.out
        go_wp2_with fail
        go_meet
        case rel =>
          refine ⟨?_, ?_, fun p' t' h => ?_, fun y h => ?_⟩
          · refine ftouch (TC.out.setCell (p := ⟨pb, 1, none⟩) (fun _ => .inr rfl) _) (by have := HQ.out; omega) _ _
          · rw [Below.heap_setCell _ _ _ _ (show q6 ≠ q7 by have := HQ.out; omega), Below.heap_setCell _ _ _ _ (show q6 ≠ q7 by have := HQ.out; omega), Below.heap_setCell _ _ _ _ (show q6 ≠ pb by have := HQ.out; omega)]
            exact Q61.out
          · rw [stepC, if_pos HFL.out, HR.out] at h
            cases h
            refine ⟨?_, ?_, fset Q72.out _ _, TLE2.out.2.1⟩
            · unfold Gr
              rw [Below.heap_setCell _ _ _ _ (show b ≠ q7 by have := HQ.out; omega), Below.heap_setCell _ _ _ _ (show b ≠ q7 by have := HQ.out; omega), Below.heap_setCell _ _ _ _ (show b ≠ pb by have := HQ.out; omega)]
              exact GR1.out
            · rw [Below.heap_setCell _ _ _ _ (show pb ≠ q7 by have := HQ.out; omega), Below.heap_setCell _ _ _ _ (show pb ≠ q7 by have := HQ.out; omega)]
              exact blk_set PB1.out _
          · rw [stepC, if_pos HFL.out, HR.out] at h
            cases h
    · have hb16 : bits .and .i64 (f : Int) 16 = 0 := by rw [FL16.out, if_neg hfl]
      have HFL := hid hfl
      clear hfl
      go_wp2_with fail
      go_meet
      case rel =>
        refine ⟨TH.out, Q6H.out, fun p' t' h => ?_, fun y h => ?_⟩
        · rw [stepC, if_neg HFL.out] at h
          cases h
          exact ⟨GRH.out, PBH.out, Q7H.out, TLE.out⟩
        · rw [stepC, if_neg HFL.out] at h
          cases h
  clear S2
  have S3 := hid hcut
  obtain ⟨w30, hw⟩ : ∃ w30, w30 = wc := ⟨_, rfl⟩
  rw [← hw] at S3 ⊢
  clear hw hcut
  cases hx3 : stepC s f p2 t2 with
  | error x =>
    have HX3 := hid hx3
    clear hx3
    have q7k := (S3.out.bad x HX3.out).1
    have q6k := S3.out.res
    have HX0 := hid (S3.out.bad x HX3.out).2
    have hx0 : ((x.1 : Int) == 0) = false := by have := HX0.out; simp; omega
    have TH := hid S3.out.touch
    have k0 := cell_two0 q7k
    have k1 := cell_two1 q7k
    have g0 := cell_two0 q6k
    have g1 := cell_two1 q6k
    have gf0 := free_two (i := 0) q6k
    have gf1 := free_two (i := 1) q6k
    have Q6K := hid q6k
    clear q7k q6k S3
    go_wp2
    refine bodyPost_ret (results_c rfl _ _ q6 31 _ (0, 0) _ rfl (fset Q6K.out _ _) Tryz.underlying31 rfl (by kernel_rfl)) rfl ?_
    show XPost w b pb s (textsR s f p t) _ _
    rw [show textsR s f p t = .error x by unfold textsR; rw [HX1.out]; show go2 (go2 (.ok (p1, t1)) (stepN s f)) _ = _; show go2 (stepN s f p1 t1) _ = _; rw [HX2.out]; show stepC s f p2 t2 = _; rw [HX3.out]]
    exact ⟨rfl, HX0.out, ftouch TH.out HQ.out.1 _ _⟩
  | ok pt =>
    obtain ⟨p3, t3⟩ := pt
    have HX3 := hid hx3
    obtain ⟨gr, pbk, q7k, hle⟩ := S3.out.ok p3 t3 hx3
    clear hx3
    have GRH := hid gr
    have PBH := hid pbk
    have TLE := hid hle
    have TH := hid S3.out.touch
    have q6k := S3.out.res
    have k0 := cell_two0 q7k
    have k1 := cell_two1 q7k
    have g0 := cell_two0 q6k
    have g1 := cell_two1 q6k
    have gf0 := free_two (i := 0) q6k
    have gf1 := free_two (i := 1) q6k
    have Q6K := hid q6k
    clear q7k q6k S3 gr pbk hle
    go_wp2
    refine bodyPost_ret (results_c rfl _ _ q6 31 _ (0, 0) _ rfl (fset Q6K.out _ _) Tryz.underlying31 rfl (by kernel_rfl)) rfl ?_
    show XPost w b pb s (textsR s f p t) _ _
    rw [show textsR s f p t = .ok (p3, t3) by unfold textsR; rw [HX1.out]; show go2 (stepN s f p1 t1) _ = _; rw [HX2.out]; show stepC s f p2 t2 = _; rw [HX3.out]]
    refine ⟨rfl, GRH.out.fset (by have := HQ.out; omega) _ _, ?_, TLE.out, ftouch TH.out HQ.out.1 _ _⟩
    rw [Below.heap_setCell _ _ _ _ (show pb ≠ q6 by have := HQ.out; omega), Below.heap_setCell _ _ _ _ (show pb ≠ q6 by have := HQ.out; omega)]
    exact PBH.out
end Go.Proofs.YtffjkceedbblgaaGreatDoor
