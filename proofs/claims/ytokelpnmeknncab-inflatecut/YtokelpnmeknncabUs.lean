/- Stored blocks, one behind the other, are unpacked; conditions: they are whole, and there is room. -/
import Derived.Test.YtokelpnmeknncabSd
namespace Go.Proofs.Ytokelpnmeknncab
open Go.RowKit

theorem block_stored (ub : Nat) (w : World) {P : Ending → World → Prop} (h : Calls Try.prog 49 #[.pointer (some ⟨ub, 0, none⟩)] w fun e w' => e = .returned (.int .i64 0) ∧ P e w') :
    Calls Try.prog 44 #[.pointer (some ⟨ub, 0, none⟩), .int .i64 0] w fun e w' => e = .returned (.int .i64 0) ∧ P e w' := by
  have H := hid h
  clear h
  go_enter Try.func44, Try.ntmps44
  go_wp2_with fail
  refine H.out.mono ?_
  rintro e w1 ⟨rfl, hP⟩
  have HP := hid hP
  clear hP
  go_wp2
  go_ret
  exact ⟨rfl, HP.out⟩

/-- Stored blocks from bit t on: what they hold, and where they end. -/
inductive Stream (s : ByteArray) : Nat → List Nat → Nat → Prop
  | last (t n : Nat) (h1 : t + 3 ≤ 8 * s.size) (hb : Bt.rval s t 1 = 1) (hk : Bt.rval s (t + 1) 2 = 0) (h4 : (t + 10) / 8 + 4 + n ≤ s.size) (hn : Bt.byteN s ((t + 10) / 8) + 256 * Bt.byteN s ((t + 10) / 8 + 1) = n) (hn' : Bt.byteN s ((t + 10) / 8 + 2) + 256 * Bt.byteN s ((t + 10) / 8 + 3) = 65535 - n) :
      Stream s t ((List.range n).map fun i => Bt.byteN s ((t + 10) / 8 + 4 + i)) (8 * ((t + 10) / 8 + 4 + n))
  | more (t n : Nat) (rest : List Nat) (tend : Nat) (h1 : t + 3 ≤ 8 * s.size) (hb : Bt.rval s t 1 = 0) (hk : Bt.rval s (t + 1) 2 = 0) (h4 : (t + 10) / 8 + 4 + n ≤ s.size) (hn : Bt.byteN s ((t + 10) / 8) + 256 * Bt.byteN s ((t + 10) / 8 + 1) = n) (hn' : Bt.byteN s ((t + 10) / 8 + 2) + 256 * Bt.byteN s ((t + 10) / 8 + 3) = 65535 - n)
      (hr : Stream s (8 * ((t + 10) / 8 + 4 + n)) rest tend) : Stream s t (((List.range n).map fun i => Bt.byteN s ((t + 10) / 8 + 4 + i)) ++ rest) tend

theorem Stream.cut {s : ByteArray} {t tend : Nat} {bytes : List Nat} (h : Stream s t bytes tend) : ∃ n lb rest, t + 3 ≤ 8 * s.size ∧ Bt.rval s t 1 = lb ∧ Bt.rval s (t + 1) 2 = 0 ∧ (t + 10) / 8 + 4 + n ≤ s.size ∧ Bt.byteN s ((t + 10) / 8) + 256 * Bt.byteN s ((t + 10) / 8 + 1) = n ∧
    Bt.byteN s ((t + 10) / 8 + 2) + 256 * Bt.byteN s ((t + 10) / 8 + 3) = 65535 - n ∧ bytes = ((List.range n).map fun i => Bt.byteN s ((t + 10) / 8 + 4 + i)) ++ rest ∧ ((lb = 1 ∧ rest = [] ∧ tend = 8 * ((t + 10) / 8 + 4 + n)) ∨ (lb = 0 ∧ Stream s (8 * ((t + 10) / 8 + 4 + n)) rest tend)) := by
  cases h with
  | last t n h1 hb hk h4 hn hn' => exact ⟨n, 1, [], h1, hb, hk, h4, hn, hn', (List.append_nil _).symm, .inl ⟨rfl, rfl, rfl⟩⟩
  | more t n rest tend h1 hb hk h4 hn hn' hr => exact ⟨n, 0, rest, h1, hb, hk, h4, hn, hn', rfl, .inr ⟨rfl, hr⟩⟩

/-- How many bits the reader at r has taken. -/
def takenOf (w : World) (r : Nat) : Nat := (intOf ((w.cell? ⟨r, 1, none⟩).getD (.int .i64 0))).toNat
theorem taken_rd {w : World} {r t : Nat} {s : ByteArray} (h : Rd w r s t) : takenOf w r = t := by
  unfold takenOf
  rw [h.c1]
  simp [intOf]

/-- What unpacking leaves. -/
def UpDone (w w' : World) (ub r : Nat) (v : Value) (out : List Nat) (most : Int) (tl td : Option Addr) (s : ByteArray) (tend : Nat) : Prop :=
  ∃ v', Up w' ub r v' out most tl td ∧ Rd w' r s tend ∧ Touch (fun k => k = r ∨ k = ub ∨ v.ownBlock = some k) w w' ∧ (v'.ownBlock = v.ownBlock ∨ ∃ g, v'.ownBlock = some g ∧ w.heap.size ≤ g)

theorem UpDone.trans {w w1 w2 : World} {ub r : Nat} {v : Value} {out out2 : List Nat} {most : Int} {tl td : Option Addr} {s : ByteArray} {t1 t2 : Nat} (h : UpDone w w1 ub r v out most tl td s t1)
    (k : ∀ v', Up w1 ub r v' out most tl td → Rd w1 r s t1 → UpDone w1 w2 ub r v' out2 most tl td s t2) : UpDone w w2 ub r v out2 most tl td s t2 := by
  obtain ⟨v1, u1, r1, t1', o1⟩ := h
  obtain ⟨v2, u2, r2, t2', o2⟩ := k v1 u1 r1
  refine ⟨v2, u2, r2, t1'.trans t2' (fun i hi e => ?_), ?_⟩
  · rcases e with e | e | e
    · exact .inl e
    · exact .inr (.inl e)
    · rcases o1 with o1 | ⟨g, o1, hg⟩
      · exact .inr (.inr (o1 ▸ e))
      · rw [o1] at e
        simp at e
        omega
  · rcases o2 with o2 | ⟨g, o2, hg⟩
    · rw [o2]
      exact o1
    · exact .inr ⟨g, o2, Nat.le_trans t1'.size hg⟩

set_option maxRecDepth 100000 in
set_option maxHeartbeats 4000000 in
theorem unpack_stream (ub r : Nat) (v : Value) (most : Int) (tl td : Option Addr) (s : ByteArray) (t tend : Nat) (bytes : List Nat) (w : World) (h : Up w ub r v [] most tl td) (hr : Rd w r s t) (hs : s.size ≤ 140737488351232)
    (hS : Stream s t bytes tend) (hm0 : 0 ≤ most) (hm1 : most ≤ 9223372036854775807) (hroom : (bytes.length : Int) ≤ most) (hl : bytes.length ≤ 70368744177664) :
    Calls Try.prog 32 #[.pointer (some ⟨ub, 0, none⟩)] w fun e w' => e = .returned (.int .i64 0) ∧ UpDone w w' ub r v bytes most tl td s tend := by
  have HU := hid h
  have HR := hid hr
  have HS := hid hS
  clear h hr hS
  go_enter Try.func32, Try.ntmps32
  go_wp2_with fail
  go_loopw [3] (fun l wr => (l = .int .i64 0 ∧ ∃ (t1 : Nat) (done rest : List Nat), bytes = done ++ rest ∧ UpDone w wr ub r v done most tl td s t1 ∧ Stream s t1 rest tend) ∨ (l = .int .i64 1 ∧ UpDone w wr ub r v bytes most tl td s tend)) (fun _ wr => 8 * s.size + 8 - takenOf wr r)
  case atStart => exact .inl ⟨rfl, t, [], bytes, rfl, ⟨v, HU.out, HR.out, Touch.refl _ _, .inl rfl⟩, HS.out⟩
  case round =>
    rcases hrel with ⟨rfl, t1, done, rest, hbytes, hup, hst⟩ | ⟨rfl, hup⟩
    · obtain ⟨n, lb, rest2, h1, hb, hk, h4, hn, hn', hrest, hend⟩ := hst.cut
      obtain ⟨v1, u1, r1, tc1, o1⟩ := hup
      have hlen : bytes.length = done.length + (n + rest2.length) := by rw [hbytes, hrest]; simp
      have U1 := hid u1
      have R1 := hid r1
      have DN := hid (show UpDone w wr ub r v done most tl td s t1 from ⟨v1, u1, r1, tc1, o1⟩)
      have HB := hid hbytes
      have HRS := hid hrest
      have HEND := hid hend
      have c0 := (up_cells u1).1
      clear u1 r1 tc1 o1 hst hbytes hrest hend
      have K1 := hid (take_yes r s t1 1 wr R1.out (by omega) (by omega) (by omega))
      rw [hb] at K1
      go_wp2_with fail
      refine K1.out.mono ?_
      rintro e w1 ⟨rfl, hs1⟩
      have U2 := hid (U1.out.reads R1.out hs1.touch)
      have RS2 := hid hs1
      clear hs1 K1
      have c1 := (up_cells U2.out).1
      have K2 := hid (take_yes r s (t1 + 1) 2 w1 RS2.out.rd (by omega) (by omega) (by omega))
      rw [hk] at K2
      go_wp2_with fail
      refine K2.out.mono ?_
      rintro e w2 ⟨rfl, hs2⟩
      have U3 := hid (U2.out.reads RS2.out.rd hs2.touch)
      have RS3 := hid (RS2.out.trans hs2)
      clear hs2 K2 U2 RS2
      have hlb : lb < 2 := by have := Bt.rval_lt s t1 1; omega
      have SY := hid (block_stored ub w2 (stored_yes ub r v1 done most tl td s (t1 + 1 + 2) ((t1 + 10) / 8) n w2 U3.out RS3.out.rd hs (by omega) (by omega) h4 hn hn' hm0 hm1 (by omega) (by omega)))
      go_wp2_with fail
      refine SY.out.mono ?_
      rintro e w3 ⟨rfl, v3, u3, r3, tc3, o3⟩
      have hd := DN.out.trans (w2 := w3) (out2 := done ++ (List.range n).map fun i => Bt.byteN s ((t1 + 10) / 8 + 4 + i)) (t2 := 8 * ((t1 + 10) / 8 + 4 + n)) (fun v' hu' _ => by
        have hvv : v' = v1 := by
          have e1 := (up_cells hu').2.1
          have e2 := (up_cells U1.out).2.1
          rw [e1] at e2
          simpa using e2
        subst hvv
        refine ⟨v3, u3, r3, (RS3.out.touch.mono (S' := fun k => k = r ∨ k = ub ∨ v'.ownBlock = some k) (fun _ _ e => .inl e)).trans tc3 (fun _ _ e => e), ?_⟩
        rcases o3 with o3 | ⟨g, o3, hg⟩
        · exact .inl o3
        · exact .inr ⟨g, o3, Nat.le_trans RS3.out.touch.size hg⟩)
      have m1 := taken_rd R1.out
      have m3 := taken_rd r3
      have hmeas : 8 * s.size + 8 - takenOf w3 r < 8 * s.size + 8 - takenOf wr r := by rw [m1, m3]; omega
      have HD := hid hd
      have HM := hid hmeas
      clear hd hmeas m1 m3 u3 r3 tc3 o3 SY
      rcases HEND.out with ⟨rfl, hr2, ht2⟩ | ⟨rfl, hst2⟩
      · go_wp2_with fail
        refine ⟨.inr ⟨rfl, ?_⟩, HM.out⟩
        rw [HB.out, HRS.out, hr2, List.append_nil, ht2]
        exact HD.out
      · go_wp2_with fail
        exact ⟨.inl ⟨rfl, _, _, rest2, by rw [HB.out, HRS.out, List.append_assoc], HD.out, hst2⟩, HM.out⟩
    · obtain ⟨v1, u1, r1, tc1, o1⟩ := hup
      go_wp2
      go_ret
      exact ⟨rfl, v1, u1, r1, tc1, o1⟩
end Go.Proofs.Ytokelpnmeknncab
