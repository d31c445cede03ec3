/- Texts of this proof, one behind the other: what each says stands ahead of it. -/
import Derived.Test.YtffjkceedbblgaaGreatDoorM7
import Derived.Test.YtffjkceedbblgaaGreatDoorM6
import Derived.Test.YtffjkceedbblgaaGreatDoorM5
import Derived.Test.YtffjkceedbblgaaGreatDoorM1
import Derived.BigQuiet
import Derived.Deep.AppendLies
import Derived.Test.YtffjkceedbblgaaGreatDoorM0
/- Stored blocks, one behind the other, are unpacked; conditions: they are whole, and there is room. -/
namespace Go.Proofs.YtffjkceedbblgaaGreatDoor
open Go.RowKit

theorem block_stored (ub : Nat) (w : World) {P : Ending → World → Prop} (h : Calls Tryz.prog 90 #[.pointer (some ⟨ub, 0, none⟩)] w fun e w' => e = .returned (.int .i64 0) ∧ P e w') :
    Calls Tryz.prog 85 #[.pointer (some ⟨ub, 0, none⟩), .int .i64 0] w fun e w' => e = .returned (.int .i64 0) ∧ P e w' := by
  have H := hid h
  clear h
  go_enter Tryz.func85, Tryz.ntmps85
  go_wp2_with fail
  refine H.out.mono ?_
  rintro e w1 ⟨rfl, hP⟩
  have HP := hid hP
  clear hP
  go_wp2
  go_ret
  exact ⟨rfl, HP.out⟩

/-- Stored blocks from bit t on: what they hold, and where they end. -/
inductive Stream (s : ByteArray) : Nat → List Nat → Nat → Prop
  | last (t n : Nat) (h1 : t + 3 ≤ 8 * s.size) (hb : Bt.rval s t 1 = 1) (hk : Bt.rval s (t + 1) 2 = 0) (h4 : (t + 10) / 8 + 4 + n ≤ s.size) (hn : Bt.byteN s ((t + 10) / 8) + 256 * Bt.byteN s ((t + 10) / 8 + 1) = n) (hn' : Bt.byteN s ((t + 10) / 8 + 2) + 256 * Bt.byteN s ((t + 10) / 8 + 3) = 65535 - n) :
      Stream s t ((List.range n).map fun i => Bt.byteN s ((t + 10) / 8 + 4 + i)) (8 * ((t + 10) / 8 + 4 + n))
  | more (t n : Nat) (rest : List Nat) (tend : Nat) (h1 : t + 3 ≤ 8 * s.size) (hb : Bt.rval s t 1 = 0) (hk : Bt.rval s (t + 1) 2 = 0) (h4 : (t + 10) / 8 + 4 + n ≤ s.size) (hn : Bt.byteN s ((t + 10) / 8) + 256 * Bt.byteN s ((t + 10) / 8 + 1) = n) (hn' : Bt.byteN s ((t + 10) / 8 + 2) + 256 * Bt.byteN s ((t + 10) / 8 + 3) = 65535 - n)
      (hr : Stream s (8 * ((t + 10) / 8 + 4 + n)) rest tend) : Stream s t (((List.range n).map fun i => Bt.byteN s ((t + 10) / 8 + 4 + i)) ++ rest) tend

theorem Stream.cut {s : ByteArray} {t tend : Nat} {bytes : List Nat} (h : Stream s t bytes tend) : ∃ n lb rest, t + 3 ≤ 8 * s.size ∧ Bt.rval s t 1 = lb ∧ Bt.rval s (t + 1) 2 = 0 ∧ (t + 10) / 8 + 4 + n ≤ s.size ∧ Bt.byteN s ((t + 10) / 8) + 256 * Bt.byteN s ((t + 10) / 8 + 1) = n ∧
    Bt.byteN s ((t + 10) / 8 + 2) + 256 * Bt.byteN s ((t + 10) / 8 + 3) = 65535 - n ∧ bytes = ((List.range n).map fun i => Bt.byteN s ((t + 10) / 8 + 4 + i)) ++ rest ∧ ((lb = 1 ∧ rest = [] ∧ tend = 8 * ((t + 10) / 8 + 4 + n)) ∨ (lb = 0 ∧ Stream s (8 * ((t + 10) / 8 + 4 + n)) rest tend)) := by
  cases h with
  | last t n h1 hb hk h4 hn hn' => exact ⟨n, 1, [], h1, hb, hk, h4, hn, hn', (List.append_nil _).symm, .inl ⟨rfl, rfl, rfl⟩⟩
  | more t n rest tend h1 hb hk h4 hn hn' hr => exact ⟨n, 0, rest, h1, hb, hk, h4, hn, hn', rfl, .inr ⟨rfl, hr⟩⟩

/-- How many bits the reader at r has taken. -/
def takenOf (w : World) (r : Nat) : Nat := (intOf ((w.cell? ⟨r, 1, none⟩).getD (.int .i64 0))).toNat
theorem taken_rd {w : World} {r t : Nat} {s : ByteArray} (h : Rd w r s t) : takenOf w r = t := by
  unfold takenOf
  rw [h.c1]
  simp [intOf]

/-- What unpacking leaves. -/
def UpDone (w w' : World) (ub r : Nat) (v : Value) (out : List Nat) (most : Int) (tl td : Option Addr) (s : ByteArray) (tend : Nat) : Prop :=
  ∃ v', Up w' ub r v' out most tl td ∧ Rd w' r s tend ∧ Touch (fun k => k = r ∨ k = ub ∨ v.ownBlock = some k) w w' ∧ (v'.ownBlock = v.ownBlock ∨ ∃ g, v'.ownBlock = some g ∧ w.heap.size ≤ g)

theorem UpDone.trans {w w1 w2 : World} {ub r : Nat} {v : Value} {out out2 : List Nat} {most : Int} {tl td : Option Addr} {s : ByteArray} {t1 t2 : Nat} (h : UpDone w w1 ub r v out most tl td s t1)
    (k : ∀ v', Up w1 ub r v' out most tl td → Rd w1 r s t1 → UpDone w1 w2 ub r v' out2 most tl td s t2) : UpDone w w2 ub r v out2 most tl td s t2 := by
  obtain ⟨v1, u1, r1, t1', o1⟩ := h
  obtain ⟨v2, u2, r2, t2', o2⟩ := k v1 u1 r1
  refine ⟨v2, u2, r2, t1'.trans t2' (fun i hi e => ?_), ?_⟩
  · rcases e with e | e | e
    · exact .inl e
    · exact .inr (.inl e)
    · rcases o1 with o1 | ⟨g, o1, hg⟩
      · exact .inr (.inr (o1 ▸ e))
      · rw [o1] at e
        simp at e
        omega
  · rcases o2 with o2 | ⟨g, o2, hg⟩
    · rw [o2]
      exact o1
    · exact .inr ⟨g, o2, Nat.le_trans t1'.size hg⟩

set_option maxRecDepth 100000 in
set_option maxHeartbeats 4000000 in
theorem unpack_stream (ub r : Nat) (v : Value) (most : Int) (tl td : Option Addr) (s : ByteArray) (t tend : Nat) (bytes : List Nat) (w : World) (h : Up w ub r v [] most tl td) (hr : Rd w r s t) (hs : s.size ≤ 140737488351232)
    (hS : Stream s t bytes tend) (hm0 : 0 ≤ most) (hm1 : most ≤ 9223372036854775807) (hroom : (bytes.length : Int) ≤ most) (hl : bytes.length ≤ 70368744177664) :
    Calls Tryz.prog 70 #[.pointer (some ⟨ub, 0, none⟩)] w fun e w' => e = .returned (.int .i64 0) ∧ UpDone w w' ub r v bytes most tl td s tend := by
  have HU := hid h
  have HR := hid hr
  have HS := hid hS
  clear h hr hS
  go_enter Tryz.func70, Tryz.ntmps70
  go_wp2_with fail
  go_loopw [3] (fun l wr => (l = .int .i64 0 ∧ ∃ (t1 : Nat) (done rest : List Nat), bytes = done ++ rest ∧ UpDone w wr ub r v done most tl td s t1 ∧ Stream s t1 rest tend) ∨ (l = .int .i64 1 ∧ UpDone w wr ub r v bytes most tl td s tend)) (fun _ wr => 8 * s.size + 8 - takenOf wr r)
  case atStart => exact .inl ⟨rfl, t, [], bytes, rfl, ⟨v, HU.out, HR.out, Touch.refl _ _, .inl rfl⟩, HS.out⟩
  case round =>
    rcases hrel with ⟨rfl, t1, done, rest, hbytes, hup, hst⟩ | ⟨rfl, hup⟩
    · obtain ⟨n, lb, rest2, h1, hb, hk, h4, hn, hn', hrest, hend⟩ := hst.cut
      obtain ⟨v1, u1, r1, tc1, o1⟩ := hup
      have hlen : bytes.length = done.length + (n + rest2.length) := by rw [hbytes, hrest]; simp
      have U1 := hid u1
      have R1 := hid r1
      have DN := hid (show UpDone w wr ub r v done most tl td s t1 from ⟨v1, u1, r1, tc1, o1⟩)
      have HB := hid hbytes
      have HRS := hid hrest
      have HEND := hid hend
      have c0 := (up_cells u1).1
      clear u1 r1 tc1 o1 hst hbytes hrest hend
      have K1 := hid (take_yes r s t1 1 wr R1.out (by omega) (by omega) (by omega))
      rw [hb] at K1
      go_wp2_with fail
      refine K1.out.mono ?_
      rintro e w1 ⟨rfl, hs1⟩
      have U2 := hid (U1.out.reads R1.out hs1.touch)
      have RS2 := hid hs1
      clear hs1 K1
      have c1 := (up_cells U2.out).1
      have K2 := hid (take_yes r s (t1 + 1) 2 w1 RS2.out.rd (by omega) (by omega) (by omega))
      rw [hk] at K2
      go_wp2_with fail
      refine K2.out.mono ?_
      rintro e w2 ⟨rfl, hs2⟩
      have U3 := hid (U2.out.reads RS2.out.rd hs2.touch)
      have RS3 := hid (RS2.out.trans hs2)
      clear hs2 K2 U2 RS2
      have hlb : lb < 2 := by have := Bt.rval_lt s t1 1; omega
      have SY := hid (block_stored ub w2 (stored_yes ub r v1 done most tl td s (t1 + 1 + 2) ((t1 + 10) / 8) n w2 U3.out RS3.out.rd hs (by omega) (by omega) h4 hn hn' hm0 hm1 (by omega) (by omega)))
      go_wp2_with fail
      refine SY.out.mono ?_
      rintro e w3 ⟨rfl, v3, u3, r3, tc3, o3⟩
      have hd := DN.out.trans (w2 := w3) (out2 := done ++ (List.range n).map fun i => Bt.byteN s ((t1 + 10) / 8 + 4 + i)) (t2 := 8 * ((t1 + 10) / 8 + 4 + n)) (fun v' hu' _ => by
        have hvv : v' = v1 := by
          have e1 := (up_cells hu').2.1
          have e2 := (up_cells U1.out).2.1
          rw [e1] at e2
          simpa using e2
        subst hvv
        refine ⟨v3, u3, r3, (RS3.out.touch.mono (S' := fun k => k = r ∨ k = ub ∨ v'.ownBlock = some k) (fun _ _ e => .inl e)).trans tc3 (fun _ _ e => e), ?_⟩
        rcases o3 with o3 | ⟨g, o3, hg⟩
        · exact .inl o3
        · exact .inr ⟨g, o3, Nat.le_trans RS3.out.touch.size hg⟩)
      have m1 := taken_rd R1.out
      have m3 := taken_rd r3
      have hmeas : 8 * s.size + 8 - takenOf w3 r < 8 * s.size + 8 - takenOf wr r := by rw [m1, m3]; omega
      have HD := hid hd
      have HM := hid hmeas
      clear hd hmeas m1 m3 u3 r3 tc3 o3 SY
      rcases HEND.out with ⟨rfl, hr2, ht2⟩ | ⟨rfl, hst2⟩
      · go_wp2_with fail
        refine ⟨.inr ⟨rfl, ?_⟩, HM.out⟩
        rw [HB.out, HRS.out, hr2, List.append_nil, ht2]
        exact HD.out
      · go_wp2_with fail
        exact ⟨.inl ⟨rfl, _, _, rest2, by rw [HB.out, HRS.out, List.append_assoc], HD.out, hst2⟩, HM.out⟩
    · obtain ⟨v1, u1, r1, tc1, o1⟩ := hup
      go_wp2
      go_ret
      exact ⟨rfl, v1, u1, r1, tc1, o1⟩
end Go.Proofs.YtffjkceedbblgaaGreatDoor

/- Next, number, literal of an unpacker: what they come to; conditions: the table is one, what is unpacked fits into memory. -/
namespace Go.Proofs.YtffjkceedbblgaaGreatDoor
open Go.RowKit Go.Lib

theorem next_nx (b r t lo hi : Nat) (f : Nat → Nat) (len : Nat) (s : ByteArray) (w : World) (hT : Inf.Tbl f len) (hB : TblIn w b f len lo hi) (hR : Rd w r s t) (hs : s.size ≤ 140737488355328) (ht : t ≤ 8 * s.size) :
    Calls Tryz.prog 99 #[.pointer (some ⟨b, 0, none⟩), .pointer (some ⟨r, 0, none⟩)] w fun e w' => e = .returned (.tuple #[.int .i64 ((Inf.nx f len s t).2.1 : Nat), .int .i64 ((Inf.nx f len s t).1 : Nat)]) ∧ RStep w w' r s (Inf.nx f len s t).2.2 := by
  refine (next_tbl b r t lo hi f len s w hT.le hT.ok hB hR hs ht).mono ?_
  intro e w' h
  rcases Inf.nx_cases f len s t with ⟨i, hi', hf, hn⟩ | ⟨h1, h2, hn⟩ | ⟨h1, h2, hn⟩
  · rw [hn]
    rcases ans_same hT.le hT.ok ht h (.inl ⟨i, hi', hf, rfl⟩) with ⟨j, _, _, he, he', hst⟩ | ⟨g, hg, he, he', hst⟩
    · simp only [Ending.returned.injEq, Value.tuple.injEq, Array.mk.injEq, List.cons.injEq, Value.int.injEq, true_and, and_true] at he'
      obtain ⟨hij, _⟩ := he'
      have : i = j := by omega
      subst this
      exact ⟨he, hst⟩
    · simp only [Ending.returned.injEq, Value.tuple.injEq, Array.mk.injEq, List.cons.injEq, Value.int.injEq, true_and, and_true] at he'
      obtain ⟨_, _, h0⟩ := he'
      omega
  · rw [hn]
    rcases ans_same hT.le hT.ok ht h (.inr (.inl ⟨h1, h2, rfl⟩)) with ⟨j, _, _, he, he', hst⟩ | ⟨g, hg, he, he', hst⟩
    · simp only [Ending.returned.injEq, Value.tuple.injEq, Array.mk.injEq, List.cons.injEq, Value.int.injEq, true_and, and_true] at he'
      obtain ⟨_, _, h0⟩ := he'
      omega
    · simp only [Ending.returned.injEq, Value.tuple.injEq, Array.mk.injEq, List.cons.injEq, Value.int.injEq, true_and, and_true] at he'
      subst he'
      exact ⟨he, hst⟩
  · rw [hn]
    rcases ans_same hT.le hT.ok ht h (.inr (.inr ⟨h1, h2, rfl⟩)) with ⟨j, _, _, he, he', hst⟩ | ⟨g, hg, he, he', hst⟩
    · simp only [Ending.returned.injEq, Value.tuple.injEq, Array.mk.injEq, List.cons.injEq, Value.int.injEq, true_and, and_true] at he'
      obtain ⟨_, _, h0⟩ := he'
      omega
    · simp only [Ending.returned.injEq, Value.tuple.injEq, Array.mk.injEq, List.cons.injEq, Value.int.injEq, true_and, and_true] at he'
      subst he'
      exact ⟨he, hst⟩

theorem number_no (ub : Nat) (least n : Int) (w : World) :
    Calls Tryz.prog 105 #[.pointer (some ⟨ub, 0, none⟩), .int .i64 least, .int .i64 n, .bool false] w fun e w' => e = .returned (.tuple #[.int .i64 0, .int .i64 5]) ∧ w' = w := by
  go_enter Tryz.func105, Tryz.ntmps105
  go_wp2
  go_ret2
  exact ⟨rfl, rfl⟩

theorem number_yes (ub r : Nat) (v : Value) (out : List Nat) (most : Int) (tl td : Option Addr) (s : ByteArray) (t least n : Nat) (w : World) (h : Up w ub r v out most tl td) (hr : Rd w r s t) (hs : s.size ≤ 140737488355328) (hn : n ≤ 32) (hl : t + n ≤ 8 * s.size) (hle : least ≤ 40000) :
    Calls Tryz.prog 105 #[.pointer (some ⟨ub, 0, none⟩), .int .i64 (least : Nat), .int .i64 (n : Nat), .bool true] w fun e w' => e = .returned (.tuple #[.int .i64 (least + Bt.rval s t n : Nat), .int .i64 0]) ∧ RStep w w' r s (t + n) := by
  obtain ⟨c0, _, _, _, _⟩ := up_cells h
  have K := hid (take_yes r s t n w hr hs hn hl)
  clear h hr
  have hrv := Bt.rval_lt s t n
  have hp : 2 ^ n ≤ 2 ^ 32 := Nat.pow_le_pow_right (by decide) hn
  have hrv2 : Bt.rval s t n < 4294967296 := by omega
  clear hrv hp
  generalize Bt.rval s t n = x at *
  go_enter Tryz.func105, Tryz.ntmps105
  go_wp2_with fail
  refine K.out.mono ?_
  rintro e w1 ⟨rfl, hst⟩
  have ST := hid hst
  clear hst K
  go_wp2
  go_ret2
  exact ⟨by rw [show ((least + x : Nat) : Int) = (least : Int) + (x : Int) by omega]; rfl, ST.out⟩

theorem number_end (ub r : Nat) (v : Value) (out : List Nat) (most : Int) (tl td : Option Addr) (s : ByteArray) (t least n : Nat) (w : World) (h : Up w ub r v out most tl td) (hr : Rd w r s t) (hs : s.size ≤ 140737488355328) (hn : n ≤ 32) (ht : t ≤ 8 * s.size) (hl : 8 * s.size < t + n) (hle : least ≤ 40000) :
    Calls Tryz.prog 105 #[.pointer (some ⟨ub, 0, none⟩), .int .i64 (least : Nat), .int .i64 (n : Nat), .bool true] w fun e w' => e = .returned (.tuple #[.int .i64 (least : Nat), .int .i64 3]) ∧ Still w w' := by
  obtain ⟨c0, _, _, _, _⟩ := up_cells h
  have K := hid (take_end r s t n w hr hs hn ht hl)
  clear h hr
  go_enter Tryz.func105, Tryz.ntmps105
  go_wp2_with fail
  refine K.out.mono ?_
  rintro e w1 ⟨rfl, hst⟩
  have ST := hid hst
  clear hst K
  go_wp2
  go_ret2
  exact ⟨rfl, ST.out⟩

theorem UpDone.refl {w : World} {ub r : Nat} {v : Value} {out : List Nat} {most : Int} {tl td : Option Addr} {s : ByteArray} {t : Nat} (h : Up w ub r v out most tl td) (hr : Rd w r s t) : UpDone w w ub r v out most tl td s t :=
  ⟨v, h, hr, Touch.refl _ _, .inl rfl⟩
theorem UpDone.reads {w w' : World} {ub r : Nat} {v : Value} {out : List Nat} {most : Int} {tl td : Option Addr} {s : ByteArray} {t t' : Nat} (h : Up w ub r v out most tl td) (hr : Rd w r s t) (st : RStep w w' r s t') : UpDone w w' ub r v out most tl td s t' :=
  ⟨v, h.reads hr st.touch, st.rd, st.touch.mono (fun _ _ e => .inl e), .inl rfl⟩

theorem Up.alloc {w : World} {ub r : Nat} {v : Value} {out : List Nat} {most : Int} {tl td : Option Addr} (h : Up w ub r v out most tl td) (o : Obj) : Up (w.alloc o) ub r v out most tl td :=
  ⟨(Below.heap_alloc _ _ _ (lt_of_block h.1)).trans h.1, h.2.alloc _⟩
theorem Rd.alloc {w : World} {r : Nat} {s : ByteArray} {t : Nat} (h : Rd w r s t) (o : Obj) : Rd (w.alloc o) r s t := by
  have hlt := h.lt
  unfold Rd at h ⊢
  rw [Below.heap_alloc _ _ _ hlt]
  exact h

/-- The list of bytes that was unpacked is another one now. -/
theorem up_grown {w w1 : World} {ub r : Nat} {v v' : Value} {out out' : List Nat} {most : Int} {tl td : Option Addr} {s : ByteArray} {t : Nat} {o : Obj} (h : Up w ub r v out most tl td) (hr : Rd w r s t) (hg : (w.alloc o).grownBy w1 v.ownBlock) (hown : w1.ownsRow 0 5 1 v' out'.length (bytesV out'))
    (hwh : v'.ownBlock = v.ownBlock ∨ v'.ownBlock = some (w.heap.size + 1)) : UpDone w (w1.setCell ⟨ub, 1, none⟩ v') ub r v out' most tl td s t := by
  obtain ⟨h1, h2, h3⟩ := up_new_out (h.alloc o) (hr.alloc o) hg hown (by
    rcases hwh with e | e
    · exact .inl e
    · exact .inr ⟨_, e, by simp⟩)
  refine ⟨v', h1, h2, ((Touch.refl (fun k => k = r ∨ k = ub ∨ v.ownBlock = some k) w).alloc o).trans h3 (fun _ _ e => .inr e), ?_⟩
  rcases hwh with e | e
  · exact .inl e
  · exact .inr ⟨_, e, by omega⟩

/-- A byte more. -/
theorem literal_yes (ub r : Nat) (v : Value) (out : List Nat) (most : Int) (tl td : Option Addr) (s : ByteArray) (t x : Nat) (w : World) (h : Up w ub r v out most tl td) (hr : Rd w r s t) (hm0 : 0 ≤ most) (hm1 : most ≤ 9223372036854775807) (hroom : (out.length : Int) < most) (hl : out.length ≤ 70368744177664) :
    Calls Tryz.prog 100 #[.pointer (some ⟨ub, 0, none⟩), .int .u8 (x : Nat)] w fun e w' => e = .returned (.int .i64 0) ∧ UpDone w w' ub r v (out ++ [x]) most tl td s t := by
  have HU := hid h
  have HR := hid hr
  have HRM := hid (hasRoom_any ub r v out most tl td 1 w h hm0 hm1 (by omega))
  have hdec : decide ((1 : Int) ≤ most - (out.length : Int)) = true := decide_eq_true (by omega)
  rw [hdec] at HRM
  clear hdec h hr
  go_enter Tryz.func100, Tryz.ntmps100
  go_wp2_with fail
  refine HRM.out.mono ?_
  rintro e w1 ⟨rfl, hst⟩
  have U1 := hid (HU.out.reads HR.out (hst.touch _))
  have R1 := hid (hst.rd HR.out)
  have ST := hid hst
  clear hst HRM
  obtain ⟨av, cv, hav⟩ := up_shape U1.out
  have c4 := (up_cells U1.out).2.1
  have f4 : w1.frozen? ⟨ub, 1, none⟩ = false := by simp [World.frozen?, U1.out.1]
  obtain ⟨i0, hin, hz0, hz1, hz2⟩ := info_parts Tryz.info5
  subst hav
  go_wp2_with (at_builtin; refine wpList_append_own_at _ rfl _ _ 36 rfl 0 5 i0 (.int .u8 0) 1 1 Tryz.underlying36 hin hz0 hz1 hz2 rfl (by decide) _ _ _ rfl (U1.out.2.alloc _) ⟨w1.heap.size, 0, none⟩ 1 1 [.int .u8 (x : Nat)] rfl rfl (cell_one_new w1 _ _) (by intro u hu; simp at hu; subst hu; rfl) (by unfold maxLen; omega) (by omega) (Nat.zero_le _) ?_)
  intro v' w2 hown hgrow _ hwh
  have hown' : w2.ownsRow 0 5 1 v' (out ++ [x]).length (bytesV (out ++ [x])) := by
    rw [List.length_append]
    unfold bytesV at hown ⊢
    rw [List.map_append]
    exact hown
  have hub := lt_of_block U1.out.1
  have hb2 : w2.heap[ub]? = some (.cells #[.pointer (some ⟨r, 0, none⟩), .slice av out.length cv, .int .i64 most, .pointer tl, .pointer td] 148 (0, 0)) := by
    rw [hgrow.block ub (by simp; omega) (fun e => (up_own U1.out R1.out).2.2 e.symm), Below.heap_alloc _ _ _ hub]
    exact U1.out.1
  have k5 : w2.cell? ⟨ub, 1, none⟩ = some (.slice av out.length cv) := by simp [World.cell?, hb2]
  have f5 : w2.frozen? ⟨ub, 1, none⟩ = false := by simp [World.frozen?, hb2]
  have FIN := hid (up_grown U1.out R1.out hgrow hown' hwh)
  obtain ⟨a5, c5, hv5⟩ := own_shape hown'
  subst hv5
  clear hown hown' hgrow hwh hb2
  go_wp2
  go_ret
  exact ⟨rfl, (UpDone.reads HU.out HR.out (ST.out.rstep HR.out)).trans (fun v1 u1 r1 => by
    have e1 := (up_cells u1).2.1
    have e2 := (up_cells U1.out).2.1
    rw [e1] at e2
    simp only [Option.some.injEq] at e2
    subst e2
    have hf := FIN.out
    rw [show (out ++ [x]).length = out.length + 1 by simp] at hf
    exact hf)⟩

theorem literal_no (ub r : Nat) (v : Value) (out : List Nat) (most : Int) (tl td : Option Addr) (s : ByteArray) (t x : Nat) (w : World) (h : Up w ub r v out most tl td) (hr : Rd w r s t) (hm0 : 0 ≤ most) (hm1 : most ≤ 9223372036854775807) (hroom : most ≤ (out.length : Int)) (hl : out.length ≤ 70368744177664) :
    Calls Tryz.prog 100 #[.pointer (some ⟨ub, 0, none⟩), .int .u8 (x : Nat)] w fun e w' => e = .returned (.int .i64 2) ∧ UpDone w w' ub r v out most tl td s t := by
  have HU := hid h
  have HR := hid hr
  have HRM := hid (hasRoom_any ub r v out most tl td 1 w h hm0 hm1 (by omega))
  have hdec : decide ((1 : Int) ≤ most - (out.length : Int)) = false := decide_eq_false (by omega)
  rw [hdec] at HRM
  clear hdec h hr
  go_enter Tryz.func100, Tryz.ntmps100
  go_wp2_with fail
  refine HRM.out.mono ?_
  rintro e w1 ⟨rfl, hst⟩
  have ST := hid hst
  clear hst HRM
  go_wp2
  go_ret
  exact ⟨rfl, UpDone.reads HU.out HR.out (ST.out.rstep HR.out)⟩
end Go.Proofs.YtffjkceedbblgaaGreatDoor

/- The document's Length and Distance of any number. -/
namespace Go.Proofs.YtffjkceedbblgaaGreatDoor
open Go.RowKit

theorem ll_le : ∀ s, s ≤ 28 → ll s ≤ 300 := by decide
theorem dl_le : ∀ s, s ≤ 30 → dl s ≤ 40000 := by decide
theorem lb_le (s : Nat) (h : s < 285) : lb s ≤ 5 := by unfold lb; split <;> omega
theorem db_le (s : Nat) (h : s < 30) : db s ≤ 13 := by unfold db; split <;> omega

theorem sum_val (a e m : Nat) (ha : a ≤ 40000) (he : e ≤ 13) (hm : a + 2 ^ e = m) : wrap64 ((a : Int) + wrap64 (2 ^ e)) = (m : Int) := by
  have h1 : (2 : Int) ^ e = ((2 ^ e : Nat) : Int) := by simp
  have h2 : 2 ^ e ≤ 2 ^ 13 := Nat.pow_le_pow_right (by decide) he
  rw [h1]
  generalize 2 ^ e = y at *
  unfold wrap64
  omega

/-- What both say of any number. -/
def LenSays (x : Int) (e : Ending) : Prop := ∃ a b : Int, ∃ ok : Bool, e = .returned (.tuple #[.int .i64 a, .int .i64 b, .bool ok]) ∧ ((¬ (257 ≤ x ∧ x ≤ 285) ∧ a = 0 ∧ b = 0 ∧ ok = false) ∨ (257 ≤ x ∧ x ≤ 285 ∧ a = (lenN x.toNat : Nat) ∧ b = (lb x.toNat : Nat) ∧ ok = true))
def DistSays (x : Int) (e : Ending) : Prop := ∃ a b : Int, ∃ ok : Bool, e = .returned (.tuple #[.int .i64 a, .int .i64 b, .bool ok]) ∧ ((¬ (0 ≤ x ∧ x ≤ 29) ∧ a = 0 ∧ b = 0 ∧ ok = false) ∨ (0 ≤ x ∧ x ≤ 29 ∧ a = (dl x.toNat : Nat) ∧ b = (db x.toNat : Nat) ∧ ok = true))

theorem len_any (x : Int) (w : World) : Calls Tryz.prog 81 #[.int .i64 x] w fun e w' => LenSays x e ∧ w' = w := by
  by_cases h : 257 ≤ x ∧ x ≤ 285
  · obtain ⟨n, rfl⟩ := Int.eq_ofNat_of_zero_le (show 0 ≤ x by omega)
    refine (len_in n w (by omega) (by omega)).mono ?_
    rintro e w' ⟨rfl, rfl⟩
    exact ⟨⟨_, _, _, rfl, .inr ⟨h.1, h.2, rfl, rfl, rfl⟩⟩, rfl⟩
  · refine (len_out x w (by omega)).mono ?_
    rintro e w' ⟨rfl, rfl⟩
    exact ⟨⟨_, _, _, rfl, .inl ⟨h, rfl, rfl, rfl⟩⟩, rfl⟩

theorem dist_any (x : Int) (w : World) : Calls Tryz.prog 82 #[.int .i64 x] w fun e w' => DistSays x e ∧ w' = w := by
  by_cases h : 0 ≤ x ∧ x ≤ 29
  · obtain ⟨n, rfl⟩ := Int.eq_ofNat_of_zero_le (show 0 ≤ x by omega)
    refine (dist_in n w (by omega)).mono ?_
    rintro e w' ⟨rfl, rfl⟩
    exact ⟨⟨_, _, _, rfl, .inr ⟨h.1, h.2, rfl, rfl, rfl⟩⟩, rfl⟩
  · refine (dist_out x w (by omega)).mono ?_
    rintro e w' ⟨rfl, rfl⟩
    exact ⟨⟨_, _, _, rfl, .inl ⟨h, rfl, rfl, rfl⟩⟩, rfl⟩

end Go.Proofs.YtffjkceedbblgaaGreatDoor

/- A byte appended to a list of bytes that the call owns, as a step of a statement whose order is open: the old list's bytes stay; conditions: together at most two to the forty-seventh bytes. -/
namespace Go.Proofs.YtffjkceedbblgaaGreatDoor
open Go.RowKit

theorem run_append_keep {P : Program} (w : World) (t ty : TypeId) (e : TypeId) (i : TypeInfo) (z : Value) (bytes : Nat) (ht : P.underlying t = some (.slice e)) (hi : P.info? e = some i) (hz : i.zero = some z)
    (hsize : i.size = 1) (hby : i.bytes = bytes) (hzs : z.cells.size = 1) (g0 n c0 : Nat) (xs : List Value) (hown : w.ownsRow 0 e 1 (.slice (some ⟨g0, 0, none⟩) n c0) n xs)
    (ad : Addr) (m c : Nat) (news : List Value) (hl : news.length = m * 1) (hnews : ∀ j u, news[j]? = some u → w.cell? (ad.add j) = some u) (h1 : ∀ u ∈ news, u.oneCell' = true)
    (hm : 0 < m) (h63 : n + m ≤ maxLen) (hbytes : (n + m) * bytes ≤ 140737488355328) :
    ∃ g cap w', (Builtin.append_ #[t, t] ty #[.slice (some ⟨g0, 0, none⟩) n c0, .slice (some ad) m c]).run P w = .ok (.slice (some ⟨g, 0, none⟩) (n + m) cap) w' ∧
      w'.ownsRow 0 e 1 (.slice (some ⟨g, 0, none⟩) (n + m) cap) (n + m) (xs ++ news) ∧ w.grownBy w' (some g0) ∧ (g = g0 ∨ g = w.heap.size) ∧ ∀ j, j < n → w'.cell? ⟨g0, j, none⟩ = w.cell? ⟨g0, j, none⟩ := by
  obtain ⟨g, cap, w', hr, h2, h3, h4, h5⟩ := run_append_lies (P := P) w t ty 0 e i z 1 bytes ht hi hz hsize hby hzs (by decide) _ n xs hown ad m c news hl hnews h1 hm h63 hbytes (Nat.zero_le _) w.heap.size rfl
  have hg0 : (g = g0 ∨ g = w.heap.size) := by
    rcases h4 with h | h
    · simp [Value.ownBlock] at h
      exact .inl h.symm
    · exact .inr h
  refine ⟨g, cap, w', hr, h2, h3, hg0, fun j hj => ?_⟩
  have hxl : xs.length = n := by have := hown.1; omega
  rcases hown.2 with ⟨h, _⟩ | ⟨g1, cap1, cur, hv, _, hg, hnc, hcm, hcs, htake⟩
  · simp at h
  · simp at hv
    obtain ⟨rfl, rfl⟩ := hv
    have hold : w.cell? ⟨g0, j, none⟩ = some (xs[j]'(by omega)) := by
      have := hown.cells (g := g0) rfl j (xs[j]'(by omega)) (by rw [List.getElem?_eq_getElem (by omega)])
      rwa [add_zero] at this
    by_cases hroom : n + m ≤ c0
    · have hr2 := run_append_room (P := P) w t ty e i ht hi g0 n c0 cur hg ad m c news (by rw [hsize]; exact hl) hnews h1 hroom (by rw [hsize]; simp at hl hcs; omega)
      rw [hr] at hr2
      simp only [Result.ok.injEq, Value.slice.injEq, Option.some.injEq, Addr.mk.injEq] at hr2
      obtain ⟨⟨⟨hgg, _, _⟩, _⟩, _⟩ := hr2
      subst hgg
      have := h2.cells (g := g) rfl j (xs[j]'(by omega)) (by rw [List.getElem?_append_left (by omega), List.getElem?_eq_getElem (by omega)])
      rw [add_zero] at this
      rw [this, hold]
    · have holds : ∀ j u, xs[j]? = some u → w.cell? ((⟨g0, 0, none⟩ : Addr).add j) = some u := hown.cells (g := g0) rfl
      have hr2 := run_append_grow (P := P) w t ty e i z ht hi hz ⟨g0, 0, none⟩ n c0 xs (by rw [hsize]; omega) holds ad m c news (by rw [hsize]; exact hl) hnews (by omega) (by unfold maxLen at h63; omega) (by rw [hby]; exact growslice_fits (by omega) hbytes)
      rw [hr] at hr2
      simp only [Result.ok.injEq] at hr2
      rw [hr2.2]
      exact World.cell?_of_block (Below.heap_alloc w.drew _ g0 (lt_of_block hg))

/-- At a step of a region that draws its order. -/
theorem step_append_keep {P : Program} (w : World) {ops : Array Oper} {o : Oper} {a : Act} {K : Act → World → Prop} {Q : Exit → Act → World → Prop} {E : Prop} (hgd : o.guard = none) (s x : Operand) (t : TypeId)
    (ho : o.op = .call { callee := .builtin .append, args := #[s, x], argTypes := #[t, t] })
    (e : TypeId) (i : TypeInfo) (z : Value) (bytes : Nat) (ht : P.underlying t = some (.slice e)) (hi : P.info? e = some i) (hz : i.zero = some z)
    (hsize : i.size = 1) (hby : i.bytes = bytes) (hzs : z.cells.size = 1) (g0 n c0 : Nat) (xs : List Value) (hs : a.eval s = .slice (some ⟨g0, 0, none⟩) n c0) (hown : w.ownsRow 0 e 1 (.slice (some ⟨g0, 0, none⟩) n c0) n xs)
    (ad : Addr) (m c : Nat) (news : List Value) (hx : a.eval x = .slice (some ad) m c) (hl : news.length = m * 1) (hnews : ∀ j u, news[j]? = some u → w.cell? (ad.add j) = some u) (h1 : ∀ u ∈ news, u.oneCell' = true)
    (hm : 0 < m) (h63 : n + m ≤ maxLen) (hbytes : (n + m) * bytes ≤ 140737488355328) (H : Nat) (hH : w.heap.size = H)
    (h : ∀ g cap w', w'.ownsRow 0 e 1 (.slice (some ⟨g, 0, none⟩) (n + m) cap) (n + m) (xs ++ news) → w.grownBy w' (some g0) → (g = g0 ∨ g = H) → (∀ j, j < n → w'.cell? ⟨g0, j, none⟩ = w.cell? ⟨g0, j, none⟩) → K (a.put o.dst (.slice (some ⟨g, 0, none⟩) (n + m) cap)) w') :
    if Region.wanted o (yielded ops a.tmps) = true then Oper.wp P o a w K Q else E := by
  have hw : Region.wanted o (yielded ops a.tmps) = true := by simp [Region.wanted, hgd]
  rw [if_pos hw]
  obtain ⟨g, cap, w', hr, h2, h3, h4, h5⟩ := run_append_keep (P := P) w t o.type e i z bytes ht hi hz hsize hby hzs g0 n c0 xs hown ad m c news hl hnews h1 hm h63 hbytes
  unfold Oper.wp execOp
  simp only [ho, resolve, invoke, builtin, Sem.run_bind, Sem.run_pure, Result.andThen_ok, List.map_toArray, List.map_cons, List.map_nil, hs, hx, hr]
  exact h g cap w' h2 h3 (by rw [← hH]; exact h4) h5
end Go.Proofs.YtffjkceedbblgaaGreatDoor

/- Each length and each distance is told by just one symbol: plain counts; no condition. -/
namespace Go.Proofs.YtffjkceedbblgaaGreatDoor

def pl (L s : Nat) : Bool := decide (257 ≤ s ∧ s ≤ 285 ∧ lenN s ≤ L ∧ L < lenN s + 2 ^ lb s ∧ (s ≠ 284 ∨ L ≠ 258))
def pd (D s : Nat) : Bool := decide (s ≤ 29 ∧ dl s ≤ D ∧ D < dl s + 2 ^ db s)
def cnt (p : Nat → Bool) : Nat → Nat
  | 0 => 0
  | k + 1 => cnt p k + (p k).toNat
theorem cnt_le (p : Nat → Bool) : ∀ k, cnt p k ≤ k
  | 0 => Nat.le_refl _
  | k + 1 => by have := cnt_le p k; have := Bool.toNat_le (p k); simp only [cnt]; omega

theorem one_len : ∀ L, L < 259 → 3 ≤ L → cnt (pl L) 300 = 1 := by decide +kernel

theorem dl_pos : ∀ k, 1 ≤ dl k
  | 0 => Nat.le_refl _
  | k + 1 => by have := dl_pos k; rw [dl]; exact Nat.le_trans this (Nat.le_add_right _ _)

theorem cnt_dist (D : Nat) : ∀ k, k ≤ 30 → cnt (pd D) k = if 1 ≤ D ∧ D < dl k then 1 else 0
  | 0, _ => by
    rw [if_neg (by simp [dl]; omega)]
    rfl
  | k + 1, h => by
    have hp := dl_pos k
    have hs : dl (k + 1) = dl k + 2 ^ db k := rfl
    have hpw : 0 < 2 ^ db k := Nat.pow_pos (by decide)
    rw [cnt, cnt_dist D k (by omega)]
    by_cases h1 : 1 ≤ D ∧ D < dl k
    · rw [if_pos h1, if_pos (by omega)]
      have : pd D k = false := decide_eq_false (by omega)
      rw [this]
      rfl
    · rw [if_neg h1]
      by_cases h2 : dl k ≤ D ∧ D < dl k + 2 ^ db k
      · have : pd D k = true := decide_eq_true ⟨by omega, h2⟩
        rw [this, if_pos (by omega)]
        rfl
      · have : pd D k = false := decide_eq_false (by omega)
        rw [this, if_neg (by omega)]
        rfl

theorem cnt_past (D : Nat) : ∀ k, cnt (pd D) (30 + k) = cnt (pd D) 30
  | 0 => rfl
  | k + 1 => by
    have : pd D (30 + k) = false := decide_eq_false (by omega)
    rw [← Nat.add_assoc, cnt, cnt_past D k, this]
    rfl

theorem one_dist (D : Nat) (h1 : 1 ≤ D) (h2 : D ≤ 32768) : cnt (pd D) 300 = 1 := by
  have h := cnt_past D 270
  rw [show 30 + 270 = 300 by rfl] at h
  rw [h, cnt_dist D 30 (by omega)]
  have : dl 30 = 32769 := by decide
  rw [this, if_pos (by omega)]
end Go.Proofs.YtffjkceedbblgaaGreatDoor
