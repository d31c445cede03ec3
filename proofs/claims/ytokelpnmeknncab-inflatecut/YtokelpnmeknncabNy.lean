/- Next, number, literal of an unpacker: what they come to; conditions: the table is one, what is unpacked fits into memory. -/
import Derived.Test.YtokelpnmeknncabIm
import Derived.Test.YtokelpnmeknncabGd
import Derived.Test.YtokelpnmeknncabUs
namespace Go.Proofs.Ytokelpnmeknncab
open Go.RowKit Go.Lib

theorem next_nx (b r t lo hi : Nat) (f : Nat → Nat) (len : Nat) (s : ByteArray) (w : World) (hT : Inf.Tbl f len) (hB : TblIn w b f len lo hi) (hR : Rd w r s t) (hs : s.size ≤ 140737488355328) (ht : t ≤ 8 * s.size) :
    Calls Try.prog 14 #[.pointer (some ⟨b, 0, none⟩), .pointer (some ⟨r, 0, none⟩)] w fun e w' => e = .returned (.tuple #[.int .i64 ((Inf.nx f len s t).2.1 : Nat), .int .i64 ((Inf.nx f len s t).1 : Nat)]) ∧ RStep w w' r s (Inf.nx f len s t).2.2 := by
  refine (next_tbl b r t lo hi f len s w hT.le hT.ok hB hR hs ht).mono ?_
  intro e w' h
  rcases Inf.nx_cases f len s t with ⟨i, hi', hf, hn⟩ | ⟨h1, h2, hn⟩ | ⟨h1, h2, hn⟩
  · rw [hn]
    rcases ans_same hT.le hT.ok ht h (.inl ⟨i, hi', hf, rfl⟩) with ⟨j, _, _, he, he', hst⟩ | ⟨g, hg, he, he', hst⟩
    · simp only [Ending.returned.injEq, Value.tuple.injEq, Array.mk.injEq, List.cons.injEq, Value.int.injEq, true_and, and_true] at he'
      obtain ⟨hij, _⟩ := he'
      have : i = j := by omega
      subst this
      exact ⟨he, hst⟩
    · simp only [Ending.returned.injEq, Value.tuple.injEq, Array.mk.injEq, List.cons.injEq, Value.int.injEq, true_and, and_true] at he'
      obtain ⟨_, _, h0⟩ := he'
      omega
  · rw [hn]
    rcases ans_same hT.le hT.ok ht h (.inr (.inl ⟨h1, h2, rfl⟩)) with ⟨j, _, _, he, he', hst⟩ | ⟨g, hg, he, he', hst⟩
    · simp only [Ending.returned.injEq, Value.tuple.injEq, Array.mk.injEq, List.cons.injEq, Value.int.injEq, true_and, and_true] at he'
      obtain ⟨_, _, h0⟩ := he'
      omega
    · simp only [Ending.returned.injEq, Value.tuple.injEq, Array.mk.injEq, List.cons.injEq, Value.int.injEq, true_and, and_true] at he'
      subst he'
      exact ⟨he, hst⟩
  · rw [hn]
    rcases ans_same hT.le hT.ok ht h (.inr (.inr ⟨h1, h2, rfl⟩)) with ⟨j, _, _, he, he', hst⟩ | ⟨g, hg, he, he', hst⟩
    · simp only [Ending.returned.injEq, Value.tuple.injEq, Array.mk.injEq, List.cons.injEq, Value.int.injEq, true_and, and_true] at he'
      obtain ⟨_, _, h0⟩ := he'
      omega
    · simp only [Ending.returned.injEq, Value.tuple.injEq, Array.mk.injEq, List.cons.injEq, Value.int.injEq, true_and, and_true] at he'
      subst he'
      exact ⟨he, hst⟩

theorem number_no (ub : Nat) (least n : Int) (w : World) :
    Calls Try.prog 65 #[.pointer (some ⟨ub, 0, none⟩), .int .i64 least, .int .i64 n, .bool false] w fun e w' => e = .returned (.tuple #[.int .i64 0, .int .i64 5]) ∧ w' = w := by
  go_enter Try.func65, Try.ntmps65
  go_wp2
  go_ret2
  exact ⟨rfl, rfl⟩

theorem number_yes (ub r : Nat) (v : Value) (out : List Nat) (most : Int) (tl td : Option Addr) (s : ByteArray) (t least n : Nat) (w : World) (h : Up w ub r v out most tl td) (hr : Rd w r s t) (hs : s.size ≤ 140737488355328) (hn : n ≤ 32) (hl : t + n ≤ 8 * s.size) (hle : least ≤ 40000) :
    Calls Try.prog 65 #[.pointer (some ⟨ub, 0, none⟩), .int .i64 (least : Nat), .int .i64 (n : Nat), .bool true] w fun e w' => e = .returned (.tuple #[.int .i64 (least + Bt.rval s t n : Nat), .int .i64 0]) ∧ RStep w w' r s (t + n) := by
  obtain ⟨c0, _, _, _, _⟩ := up_cells h
  have K := hid (take_yes r s t n w hr hs hn hl)
  clear h hr
  have hrv := Bt.rval_lt s t n
  have hp : 2 ^ n ≤ 2 ^ 32 := Nat.pow_le_pow_right (by decide) hn
  have hrv2 : Bt.rval s t n < 4294967296 := by omega
  clear hrv hp
  generalize Bt.rval s t n = x at *
  go_enter Try.func65, Try.ntmps65
  go_wp2_with fail
  refine K.out.mono ?_
  rintro e w1 ⟨rfl, hst⟩
  have ST := hid hst
  clear hst K
  go_wp2
  go_ret2
  exact ⟨by rw [show ((least + x : Nat) : Int) = (least : Int) + (x : Int) by omega]; rfl, ST.out⟩

theorem number_end (ub r : Nat) (v : Value) (out : List Nat) (most : Int) (tl td : Option Addr) (s : ByteArray) (t least n : Nat) (w : World) (h : Up w ub r v out most tl td) (hr : Rd w r s t) (hs : s.size ≤ 140737488355328) (hn : n ≤ 32) (ht : t ≤ 8 * s.size) (hl : 8 * s.size < t + n) (hle : least ≤ 40000) :
    Calls Try.prog 65 #[.pointer (some ⟨ub, 0, none⟩), .int .i64 (least : Nat), .int .i64 (n : Nat), .bool true] w fun e w' => e = .returned (.tuple #[.int .i64 (least : Nat), .int .i64 3]) ∧ Still w w' := by
  obtain ⟨c0, _, _, _, _⟩ := up_cells h
  have K := hid (take_end r s t n w hr hs hn ht hl)
  clear h hr
  go_enter Try.func65, Try.ntmps65
  go_wp2_with fail
  refine K.out.mono ?_
  rintro e w1 ⟨rfl, hst⟩
  have ST := hid hst
  clear hst K
  go_wp2
  go_ret2
  exact ⟨rfl, ST.out⟩

theorem UpDone.refl {w : World} {ub r : Nat} {v : Value} {out : List Nat} {most : Int} {tl td : Option Addr} {s : ByteArray} {t : Nat} (h : Up w ub r v out most tl td) (hr : Rd w r s t) : UpDone w w ub r v out most tl td s t :=
  ⟨v, h, hr, Touch.refl _ _, .inl rfl⟩
theorem UpDone.reads {w w' : World} {ub r : Nat} {v : Value} {out : List Nat} {most : Int} {tl td : Option Addr} {s : ByteArray} {t t' : Nat} (h : Up w ub r v out most tl td) (hr : Rd w r s t) (st : RStep w w' r s t') : UpDone w w' ub r v out most tl td s t' :=
  ⟨v, h.reads hr st.touch, st.rd, st.touch.mono (fun _ _ e => .inl e), .inl rfl⟩

theorem Up.alloc {w : World} {ub r : Nat} {v : Value} {out : List Nat} {most : Int} {tl td : Option Addr} (h : Up w ub r v out most tl td) (o : Obj) : Up (w.alloc o) ub r v out most tl td :=
  ⟨(Below.heap_alloc _ _ _ (lt_of_block h.1)).trans h.1, h.2.alloc _⟩
theorem Rd.alloc {w : World} {r : Nat} {s : ByteArray} {t : Nat} (h : Rd w r s t) (o : Obj) : Rd (w.alloc o) r s t := by
  have hlt := h.lt
  unfold Rd at h ⊢
  rw [Below.heap_alloc _ _ _ hlt]
  exact h

/-- The list of bytes that was unpacked is another one now. -/
theorem up_grown {w w1 : World} {ub r : Nat} {v v' : Value} {out out' : List Nat} {most : Int} {tl td : Option Addr} {s : ByteArray} {t : Nat} {o : Obj} (h : Up w ub r v out most tl td) (hr : Rd w r s t) (hg : (w.alloc o).grownBy w1 v.ownBlock) (hown : w1.ownsRow 0 5 1 v' out'.length (bytesV out'))
    (hwh : v'.ownBlock = v.ownBlock ∨ v'.ownBlock = some (w.heap.size + 1)) : UpDone w (w1.setCell ⟨ub, 1, none⟩ v') ub r v out' most tl td s t := by
  obtain ⟨h1, h2, h3⟩ := up_new_out (h.alloc o) (hr.alloc o) hg hown (by
    rcases hwh with e | e
    · exact .inl e
    · exact .inr ⟨_, e, by simp⟩)
  refine ⟨v', h1, h2, ((Touch.refl (fun k => k = r ∨ k = ub ∨ v.ownBlock = some k) w).alloc o).trans h3 (fun _ _ e => .inr e), ?_⟩
  rcases hwh with e | e
  · exact .inl e
  · exact .inr ⟨_, e, by omega⟩

/-- A byte more. -/
theorem literal_yes (ub r : Nat) (v : Value) (out : List Nat) (most : Int) (tl td : Option Addr) (s : ByteArray) (t x : Nat) (w : World) (h : Up w ub r v out most tl td) (hr : Rd w r s t) (hm0 : 0 ≤ most) (hm1 : most ≤ 9223372036854775807) (hroom : (out.length : Int) < most) (hl : out.length ≤ 70368744177664) :
    Calls Try.prog 58 #[.pointer (some ⟨ub, 0, none⟩), .int .u8 (x : Nat)] w fun e w' => e = .returned (.int .i64 0) ∧ UpDone w w' ub r v (out ++ [x]) most tl td s t := by
  have HU := hid h
  have HR := hid hr
  have HRM := hid (hasRoom_any ub r v out most tl td 1 w h hm0 hm1 (by omega))
  have hdec : decide ((1 : Int) ≤ most - (out.length : Int)) = true := decide_eq_true (by omega)
  rw [hdec] at HRM
  clear hdec h hr
  go_enter Try.func58, Try.ntmps58
  go_wp2_with fail
  refine HRM.out.mono ?_
  rintro e w1 ⟨rfl, hst⟩
  have U1 := hid (HU.out.reads HR.out (hst.touch _))
  have R1 := hid (hst.rd HR.out)
  have ST := hid hst
  clear hst HRM
  obtain ⟨av, cv, hav⟩ := up_shape U1.out
  have c4 := (up_cells U1.out).2.1
  have f4 : w1.frozen? ⟨ub, 1, none⟩ = false := by simp [World.frozen?, U1.out.1]
  obtain ⟨i0, hin, hz0, hz1, hz2⟩ := info_parts Try.info5
  subst hav
  go_wp2_with (at_builtin; refine wpList_append_own_at _ rfl _ _ 28 rfl 0 5 i0 (.int .u8 0) 1 1 Try.underlying28 hin hz0 hz1 hz2 rfl (by decide) _ _ _ rfl (U1.out.2.alloc _) ⟨w1.heap.size, 0, none⟩ 1 1 [.int .u8 (x : Nat)] rfl rfl (cell_one_new w1 _ _) (by intro u hu; simp at hu; subst hu; rfl) (by unfold maxLen; omega) (by omega) (Nat.zero_le _) ?_)
  intro v' w2 hown hgrow _ hwh
  have hown' : w2.ownsRow 0 5 1 v' (out ++ [x]).length (bytesV (out ++ [x])) := by
    rw [List.length_append]
    unfold bytesV at hown ⊢
    rw [List.map_append]
    exact hown
  have hub := lt_of_block U1.out.1
  have hb2 : w2.heap[ub]? = some (.cells #[.pointer (some ⟨r, 0, none⟩), .slice av out.length cv, .int .i64 most, .pointer tl, .pointer td] 76 (0, 0)) := by
    rw [hgrow.block ub (by simp; omega) (fun e => (up_own U1.out R1.out).2.2 e.symm), Below.heap_alloc _ _ _ hub]
    exact U1.out.1
  have k5 : w2.cell? ⟨ub, 1, none⟩ = some (.slice av out.length cv) := by simp [World.cell?, hb2]
  have f5 : w2.frozen? ⟨ub, 1, none⟩ = false := by simp [World.frozen?, hb2]
  have FIN := hid (up_grown U1.out R1.out hgrow hown' hwh)
  obtain ⟨a5, c5, hv5⟩ := own_shape hown'
  subst hv5
  clear hown hown' hgrow hwh hb2
  go_wp2
  go_ret
  exact ⟨rfl, (UpDone.reads HU.out HR.out (ST.out.rstep HR.out)).trans (fun v1 u1 r1 => by
    have e1 := (up_cells u1).2.1
    have e2 := (up_cells U1.out).2.1
    rw [e1] at e2
    simp only [Option.some.injEq] at e2
    subst e2
    have hf := FIN.out
    rw [show (out ++ [x]).length = out.length + 1 by simp] at hf
    exact hf)⟩

theorem literal_no (ub r : Nat) (v : Value) (out : List Nat) (most : Int) (tl td : Option Addr) (s : ByteArray) (t x : Nat) (w : World) (h : Up w ub r v out most tl td) (hr : Rd w r s t) (hm0 : 0 ≤ most) (hm1 : most ≤ 9223372036854775807) (hroom : most ≤ (out.length : Int)) (hl : out.length ≤ 70368744177664) :
    Calls Try.prog 58 #[.pointer (some ⟨ub, 0, none⟩), .int .u8 (x : Nat)] w fun e w' => e = .returned (.int .i64 2) ∧ UpDone w w' ub r v out most tl td s t := by
  have HU := hid h
  have HR := hid hr
  have HRM := hid (hasRoom_any ub r v out most tl td 1 w h hm0 hm1 (by omega))
  have hdec : decide ((1 : Int) ≤ most - (out.length : Int)) = false := decide_eq_false (by omega)
  rw [hdec] at HRM
  clear hdec h hr
  go_enter Try.func58, Try.ntmps58
  go_wp2_with fail
  refine HRM.out.mono ?_
  rintro e w1 ⟨rfl, hst⟩
  have ST := hid hst
  clear hst HRM
  go_wp2
  go_ret
  exact ⟨rfl, UpDone.reads HU.out HR.out (ST.out.rstep HR.out)⟩
end Go.Proofs.Ytokelpnmeknncab
