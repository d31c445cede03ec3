/- Texts of this proof, one behind the other: what each says stands ahead of it. -/
import Derived.Test.YtohcngiiijokkaaDoorM7
import Derived.Test.YtohcngiiijokkaaDoorM8
import Derived.Test.YtohcngiiijokkaaDoorM6
import Derived.Test.YtohcngiiijokkaaDoorM1
import Derived.BigQuiet
import Derived.Deep.AppendLies
/- Next, number, literal of an unpacker: what they come to; conditions: the table is one, what is unpacked fits into memory. -/
namespace Go.Proofs.YtohcngiiijokkaaDoor
open Go.RowKit Go.Lib

theorem next_nx (b r t lo hi : Nat) (f : Nat → Nat) (len : Nat) (s : ByteArray) (w : World) (hT : Inf.Tbl f len) (hB : TblIn w b f len lo hi) (hR : Rd w r s t) (hs : s.size ≤ 140737488355328) (ht : t ≤ 8 * s.size) :
    Calls Tryd.prog 64 #[.pointer (some ⟨b, 0, none⟩), .pointer (some ⟨r, 0, none⟩)] w fun e w' => e = .returned (.tuple #[.int .i64 ((Inf.nx f len s t).2.1 : Nat), .int .i64 ((Inf.nx f len s t).1 : Nat)]) ∧ RStep w w' r s (Inf.nx f len s t).2.2 := by
  refine (next_tbl b r t lo hi f len s w hT.le hT.ok hB hR hs ht).mono ?_
  intro e w' h
  rcases Inf.nx_cases f len s t with ⟨i, hi', hf, hn⟩ | ⟨h1, h2, hn⟩ | ⟨h1, h2, hn⟩
  · rw [hn]
    rcases ans_same hT.le hT.ok ht h (.inl ⟨i, hi', hf, rfl⟩) with ⟨j, _, _, he, he', hst⟩ | ⟨g, hg, he, he', hst⟩
    · simp only [Ending.returned.injEq, Value.tuple.injEq, Array.mk.injEq, List.cons.injEq, Value.int.injEq, true_and, and_true] at he'
      obtain ⟨hij, _⟩ := he'
      have : i = j := by omega
      subst this
      exact ⟨he, hst⟩
    · simp only [Ending.returned.injEq, Value.tuple.injEq, Array.mk.injEq, List.cons.injEq, Value.int.injEq, true_and, and_true] at he'
      obtain ⟨_, _, h0⟩ := he'
      omega
  · rw [hn]
    rcases ans_same hT.le hT.ok ht h (.inr (.inl ⟨h1, h2, rfl⟩)) with ⟨j, _, _, he, he', hst⟩ | ⟨g, hg, he, he', hst⟩
    · simp only [Ending.returned.injEq, Value.tuple.injEq, Array.mk.injEq, List.cons.injEq, Value.int.injEq, true_and, and_true] at he'
      obtain ⟨_, _, h0⟩ := he'
      omega
    · simp only [Ending.returned.injEq, Value.tuple.injEq, Array.mk.injEq, List.cons.injEq, Value.int.injEq, true_and, and_true] at he'
      subst he'
      exact ⟨he, hst⟩
  · rw [hn]
    rcases ans_same hT.le hT.ok ht h (.inr (.inr ⟨h1, h2, rfl⟩)) with ⟨j, _, _, he, he', hst⟩ | ⟨g, hg, he, he', hst⟩
    · simp only [Ending.returned.injEq, Value.tuple.injEq, Array.mk.injEq, List.cons.injEq, Value.int.injEq, true_and, and_true] at he'
      obtain ⟨_, _, h0⟩ := he'
      omega
    · simp only [Ending.returned.injEq, Value.tuple.injEq, Array.mk.injEq, List.cons.injEq, Value.int.injEq, true_and, and_true] at he'
      subst he'
      exact ⟨he, hst⟩

theorem number_no (ub : Nat) (least n : Int) (w : World) :
    Calls Tryd.prog 72 #[.pointer (some ⟨ub, 0, none⟩), .int .i64 least, .int .i64 n, .bool false] w fun e w' => e = .returned (.tuple #[.int .i64 0, .int .i64 5]) ∧ w' = w := by
  go_enter Tryd.func72, Tryd.ntmps72
  go_wp2
  go_ret2
  exact ⟨rfl, rfl⟩

theorem number_yes (ub r : Nat) (v : Value) (out : List Nat) (most : Int) (tl td : Option Addr) (s : ByteArray) (t least n : Nat) (w : World) (h : Up w ub r v out most tl td) (hr : Rd w r s t) (hs : s.size ≤ 140737488355328) (hn : n ≤ 32) (hl : t + n ≤ 8 * s.size) (hle : least ≤ 40000) :
    Calls Tryd.prog 72 #[.pointer (some ⟨ub, 0, none⟩), .int .i64 (least : Nat), .int .i64 (n : Nat), .bool true] w fun e w' => e = .returned (.tuple #[.int .i64 (least + Bt.rval s t n : Nat), .int .i64 0]) ∧ RStep w w' r s (t + n) := by
  obtain ⟨c0, _, _, _, _⟩ := up_cells h
  have K := hid (take_yes r s t n w hr hs hn hl)
  clear h hr
  have hrv := Bt.rval_lt s t n
  have hp : 2 ^ n ≤ 2 ^ 32 := Nat.pow_le_pow_right (by decide) hn
  have hrv2 : Bt.rval s t n < 4294967296 := by omega
  clear hrv hp
  generalize Bt.rval s t n = x at *
  go_enter Tryd.func72, Tryd.ntmps72
  go_wp2_with fail
  refine K.out.mono ?_
  rintro e w1 ⟨rfl, hst⟩
  have ST := hid hst
  clear hst K
  go_wp2
  go_ret2
  exact ⟨by rw [show ((least + x : Nat) : Int) = (least : Int) + (x : Int) by omega]; rfl, ST.out⟩

theorem number_end (ub r : Nat) (v : Value) (out : List Nat) (most : Int) (tl td : Option Addr) (s : ByteArray) (t least n : Nat) (w : World) (h : Up w ub r v out most tl td) (hr : Rd w r s t) (hs : s.size ≤ 140737488355328) (hn : n ≤ 32) (ht : t ≤ 8 * s.size) (hl : 8 * s.size < t + n) (hle : least ≤ 40000) :
    Calls Tryd.prog 72 #[.pointer (some ⟨ub, 0, none⟩), .int .i64 (least : Nat), .int .i64 (n : Nat), .bool true] w fun e w' => e = .returned (.tuple #[.int .i64 (least : Nat), .int .i64 3]) ∧ Still w w' := by
  obtain ⟨c0, _, _, _, _⟩ := up_cells h
  have K := hid (take_end r s t n w hr hs hn ht hl)
  clear h hr
  go_enter Tryd.func72, Tryd.ntmps72
  go_wp2_with fail
  refine K.out.mono ?_
  rintro e w1 ⟨rfl, hst⟩
  have ST := hid hst
  clear hst K
  go_wp2
  go_ret2
  exact ⟨rfl, ST.out⟩

theorem UpDone.refl {w : World} {ub r : Nat} {v : Value} {out : List Nat} {most : Int} {tl td : Option Addr} {s : ByteArray} {t : Nat} (h : Up w ub r v out most tl td) (hr : Rd w r s t) : UpDone w w ub r v out most tl td s t :=
  ⟨v, h, hr, Touch.refl _ _, .inl rfl⟩
theorem UpDone.reads {w w' : World} {ub r : Nat} {v : Value} {out : List Nat} {most : Int} {tl td : Option Addr} {s : ByteArray} {t t' : Nat} (h : Up w ub r v out most tl td) (hr : Rd w r s t) (st : RStep w w' r s t') : UpDone w w' ub r v out most tl td s t' :=
  ⟨v, h.reads hr st.touch, st.rd, st.touch.mono (fun _ _ e => .inl e), .inl rfl⟩

theorem Up.alloc {w : World} {ub r : Nat} {v : Value} {out : List Nat} {most : Int} {tl td : Option Addr} (h : Up w ub r v out most tl td) (o : Obj) : Up (w.alloc o) ub r v out most tl td :=
  ⟨(Below.heap_alloc _ _ _ (lt_of_block h.1)).trans h.1, h.2.alloc _⟩
theorem Rd.alloc {w : World} {r : Nat} {s : ByteArray} {t : Nat} (h : Rd w r s t) (o : Obj) : Rd (w.alloc o) r s t := by
  have hlt := h.lt
  unfold Rd at h ⊢
  rw [Below.heap_alloc _ _ _ hlt]
  exact h

/-- The list of bytes that was unpacked is another one now. -/
theorem up_grown {w w1 : World} {ub r : Nat} {v v' : Value} {out out' : List Nat} {most : Int} {tl td : Option Addr} {s : ByteArray} {t : Nat} {o : Obj} (h : Up w ub r v out most tl td) (hr : Rd w r s t) (hg : (w.alloc o).grownBy w1 v.ownBlock) (hown : w1.ownsRow 0 5 1 v' out'.length (bytesV out'))
    (hwh : v'.ownBlock = v.ownBlock ∨ v'.ownBlock = some (w.heap.size + 1)) : UpDone w (w1.setCell ⟨ub, 1, none⟩ v') ub r v out' most tl td s t := by
  obtain ⟨h1, h2, h3⟩ := up_new_out (h.alloc o) (hr.alloc o) hg hown (by
    rcases hwh with e | e
    · exact .inl e
    · exact .inr ⟨_, e, by simp⟩)
  refine ⟨v', h1, h2, ((Touch.refl (fun k => k = r ∨ k = ub ∨ v.ownBlock = some k) w).alloc o).trans h3 (fun _ _ e => .inr e), ?_⟩
  rcases hwh with e | e
  · exact .inl e
  · exact .inr ⟨_, e, by omega⟩

/-- A byte more. -/
theorem literal_yes (ub r : Nat) (v : Value) (out : List Nat) (most : Int) (tl td : Option Addr) (s : ByteArray) (t x : Nat) (w : World) (h : Up w ub r v out most tl td) (hr : Rd w r s t) (hm0 : 0 ≤ most) (hm1 : most ≤ 9223372036854775807) (hroom : (out.length : Int) < most) (hl : out.length ≤ 70368744177664) :
    Calls Tryd.prog 65 #[.pointer (some ⟨ub, 0, none⟩), .int .u8 (x : Nat)] w fun e w' => e = .returned (.int .i64 0) ∧ UpDone w w' ub r v (out ++ [x]) most tl td s t := by
  have HU := hid h
  have HR := hid hr
  have HRM := hid (hasRoom_any ub r v out most tl td 1 w h hm0 hm1 (by omega))
  have hdec : decide ((1 : Int) ≤ most - (out.length : Int)) = true := decide_eq_true (by omega)
  rw [hdec] at HRM
  clear hdec h hr
  go_enter Tryd.func65, Tryd.ntmps65
  go_wp2_with fail
  refine HRM.out.mono ?_
  rintro e w1 ⟨rfl, hst⟩
  have U1 := hid (HU.out.reads HR.out (hst.touch _))
  have R1 := hid (hst.rd HR.out)
  have ST := hid hst
  clear hst HRM
  obtain ⟨av, cv, hav⟩ := up_shape U1.out
  have c4 := (up_cells U1.out).2.1
  have f4 : w1.frozen? ⟨ub, 1, none⟩ = false := by simp [World.frozen?, U1.out.1]
  obtain ⟨i0, hin, hz0, hz1, hz2⟩ := info_parts Tryd.info5
  subst hav
  go_wp2_with (at_builtin; refine wpList_append_own_at _ rfl _ _ 67 rfl 0 5 i0 (.int .u8 0) 1 1 Tryd.underlying67 hin hz0 hz1 hz2 rfl (by decide) _ _ _ rfl (U1.out.2.alloc _) ⟨w1.heap.size, 0, none⟩ 1 1 [.int .u8 (x : Nat)] rfl rfl (cell_one_new w1 _ _) (by intro u hu; simp at hu; subst hu; rfl) (by unfold maxLen; omega) (by omega) (Nat.zero_le _) ?_)
  intro v' w2 hown hgrow _ hwh
  have hown' : w2.ownsRow 0 5 1 v' (out ++ [x]).length (bytesV (out ++ [x])) := by
    rw [List.length_append]
    unfold bytesV at hown ⊢
    rw [List.map_append]
    exact hown
  have hub := lt_of_block U1.out.1
  have hb2 : w2.heap[ub]? = some (.cells #[.pointer (some ⟨r, 0, none⟩), .slice av out.length cv, .int .i64 most, .pointer tl, .pointer td] 86 (0, 0)) := by
    rw [hgrow.block ub (by simp; omega) (fun e => (up_own U1.out R1.out).2.2 e.symm), Below.heap_alloc _ _ _ hub]
    exact U1.out.1
  have k5 : w2.cell? ⟨ub, 1, none⟩ = some (.slice av out.length cv) := by simp [World.cell?, hb2]
  have f5 : w2.frozen? ⟨ub, 1, none⟩ = false := by simp [World.frozen?, hb2]
  have FIN := hid (up_grown U1.out R1.out hgrow hown' hwh)
  obtain ⟨a5, c5, hv5⟩ := own_shape hown'
  subst hv5
  clear hown hown' hgrow hwh hb2
  go_wp2
  go_ret
  exact ⟨rfl, (UpDone.reads HU.out HR.out (ST.out.rstep HR.out)).trans (fun v1 u1 r1 => by
    have e1 := (up_cells u1).2.1
    have e2 := (up_cells U1.out).2.1
    rw [e1] at e2
    simp only [Option.some.injEq] at e2
    subst e2
    have hf := FIN.out
    rw [show (out ++ [x]).length = out.length + 1 by simp] at hf
    exact hf)⟩

theorem literal_no (ub r : Nat) (v : Value) (out : List Nat) (most : Int) (tl td : Option Addr) (s : ByteArray) (t x : Nat) (w : World) (h : Up w ub r v out most tl td) (hr : Rd w r s t) (hm0 : 0 ≤ most) (hm1 : most ≤ 9223372036854775807) (hroom : most ≤ (out.length : Int)) (hl : out.length ≤ 70368744177664) :
    Calls Tryd.prog 65 #[.pointer (some ⟨ub, 0, none⟩), .int .u8 (x : Nat)] w fun e w' => e = .returned (.int .i64 2) ∧ UpDone w w' ub r v out most tl td s t := by
  have HU := hid h
  have HR := hid hr
  have HRM := hid (hasRoom_any ub r v out most tl td 1 w h hm0 hm1 (by omega))
  have hdec : decide ((1 : Int) ≤ most - (out.length : Int)) = false := decide_eq_false (by omega)
  rw [hdec] at HRM
  clear hdec h hr
  go_enter Tryd.func65, Tryd.ntmps65
  go_wp2_with fail
  refine HRM.out.mono ?_
  rintro e w1 ⟨rfl, hst⟩
  have ST := hid hst
  clear hst HRM
  go_wp2
  go_ret
  exact ⟨rfl, UpDone.reads HU.out HR.out (ST.out.rstep HR.out)⟩
end Go.Proofs.YtohcngiiijokkaaDoor

/- The document's Length and Distance of any number. -/
namespace Go.Proofs.YtohcngiiijokkaaDoor
open Go.RowKit

set_option maxRecDepth 10000 in
theorem more_any (x : Nat) (w : World) (h1 : 257 ≤ x) (h : x < 285) : Calls Tryd.prog 50 #[.int .i64 (x : Nat)] w fun e w' => e = .returned (.int .i64 (lb x : Nat)) ∧ w' = w := by
  by_cases hx : x < 265
  · have e : lb x = 0 := by unfold lb; rw [if_pos (.inl hx)]
    rw [e]
    go_enter Tryd.func50, Tryd.ntmps50
    go_wp2
    go_ret
    exact ⟨rfl, rfl⟩
  · have e : ((lb x : Nat) : Int) = ((x : Int) - 261) / 4 := by unfold lb; rw [if_neg (by omega)]; omega
    have HE := hid e
    clear e
    go_enter Tryd.func50, Tryd.ntmps50
    go_wp2
    go_ret
    refine ⟨?_, rfl⟩
    rw [HE.out]
    rfl

set_option maxRecDepth 10000 in
theorem wide_any (x : Nat) (w : World) (h : x < 30) : Calls Tryd.prog 51 #[.int .i64 (x : Nat)] w fun e w' => e = .returned (.int .i64 (db x : Nat)) ∧ w' = w := by
  by_cases hx : x < 4
  · have e : db x = 0 := by unfold db; rw [if_pos hx]
    rw [e]
    go_enter Tryd.func51, Tryd.ntmps51
    go_wp2
    go_ret
    exact ⟨rfl, rfl⟩
  · have e : ((db x : Nat) : Int) = (x : Int) / 2 - 1 := by unfold db; rw [if_neg (by omega)]; omega
    have HE := hid e
    clear e
    go_enter Tryd.func51, Tryd.ntmps51
    go_wp2
    go_ret
    refine ⟨?_, rfl⟩
    rw [HE.out]
    rfl

theorem rlen_out (x : Int) (w : World) (h : x < 257 ∨ 285 < x) : Calls Tryd.prog 43 #[.int .i64 x] w fun e w' => e = .returned (.tuple #[.int .i64 0, .int .i64 0, .bool false]) ∧ w' = w := by
  rcases h with h | h
  · go_enter Tryd.func43, Tryd.ntmps43
    go_wp2
    go_ret3
    exact ⟨rfl, rfl⟩
  · have h' : ¬ x < 257 := by omega
    go_enter Tryd.func43, Tryd.ntmps43
    go_wp2
    go_ret3
    exact ⟨rfl, rfl⟩

theorem rlen_last (w : World) : Calls Tryd.prog 43 #[.int .i64 285] w fun e w' => e = .returned (.tuple #[.int .i64 258, .int .i64 0, .bool true]) ∧ w' = w := by
  go_enter Tryd.func43, Tryd.ntmps43
  go_wp2
  go_ret3
  exact ⟨rfl, rfl⟩

theorem ll_le : ∀ s, s ≤ 28 → ll s ≤ 300 := by decide
theorem dl_le : ∀ s, s ≤ 30 → dl s ≤ 40000 := by decide
theorem lb_le (s : Nat) (h : s < 285) : lb s ≤ 5 := by unfold lb; split <;> omega
theorem db_le (s : Nat) (h : s < 30) : db s ≤ 13 := by unfold db; split <;> omega

theorem sum_val (a e m : Nat) (ha : a ≤ 40000) (he : e ≤ 13) (hm : a + 2 ^ e = m) : wrap64 ((a : Int) + wrap64 (2 ^ e)) = (m : Int) := by
  have h1 : (2 : Int) ^ e = ((2 ^ e : Nat) : Int) := by simp
  have h2 : 2 ^ e ≤ 2 ^ 13 := Nat.pow_le_pow_right (by decide) he
  rw [h1]
  generalize 2 ^ e = y at *
  unfold wrap64
  omega

set_option maxRecDepth 10000 in
set_option maxHeartbeats 1000000 in
theorem rlen_in (x : Nat) (w : World) (h : 257 ≤ x) (h2 : x < 285) : Calls Tryd.prog 43 #[.int .i64 (x : Nat)] w fun e w' => e = .returned (.tuple #[.int .i64 (lenN x : Nat), .int .i64 (lb x : Nat), .bool true]) ∧ w' = w := by
  have e : lenN x = ll (x - 257) := by unfold lenN; rw [if_neg (by omega)]
  rw [e]
  clear e
  have hne : ((x : Int) == 285) = false := by simp; omega
  go_enter Tryd.func43, Tryd.ntmps43
  go_wp2_with fail
  go_loop [5, 6] (fun l i => ∃ k : Nat, 257 ≤ k ∧ k ≤ x ∧ i = .int .i64 (k : Nat) ∧ l = .int .i64 (ll (k - 257) : Nat)) (fun _ i => x - (intOf i).toNat)
  case atStart => exact ⟨257, by omega, h, rfl, rfl⟩
  case round =>
    obtain ⟨k, hk1, hk2, rfl, rfl⟩ := hrel
    by_cases hlt : k < x
    · have hl := ll_le (k - 257) (by omega)
      have hb := lb_le k (by omega)
      have hst : ll (k - 257) + 2 ^ lb k = ll (k + 1 - 257) := by
        rw [show k + 1 - 257 = (k - 257) + 1 by omega, ll, show 257 + (k - 257) = k by omega]
      have hsv := sum_val (ll (k - 257)) (lb k) _ (by omega) (by omega) hst
      have HSV := hid hsv
      clear hst hsv
      go_wp2_with fail
      refine (more_any k w hk1 (by omega)).mono ?_
      rintro e w1 ⟨rfl, rfl⟩
      generalize lb k = b at *
      generalize ll (k - 257) = a at *
      go_wp2_with fail
      exact ⟨⟨k + 1, by omega, by omega, by go_num, by rw [HSV.out]⟩, by simp [intOf]; omega⟩
    · obtain rfl : k = x := by omega
      go_wp2_with fail
      refine (more_any k w hk1 h2).mono ?_
      rintro e w1 ⟨rfl, rfl⟩
      go_wp2
      go_ret3
      exact ⟨rfl, rfl⟩

theorem rdist_out (x : Int) (w : World) (h : x < 0 ∨ 29 < x) : Calls Tryd.prog 44 #[.int .i64 x] w fun e w' => e = .returned (.tuple #[.int .i64 0, .int .i64 0, .bool false]) ∧ w' = w := by
  rcases h with h | h
  · go_enter Tryd.func44, Tryd.ntmps44
    go_wp2
    go_ret3
    exact ⟨rfl, rfl⟩
  · have h' : ¬ x < 0 := by omega
    go_enter Tryd.func44, Tryd.ntmps44
    go_wp2
    go_ret3
    exact ⟨rfl, rfl⟩

set_option maxRecDepth 10000 in
set_option maxHeartbeats 1000000 in
theorem rdist_in (x : Nat) (w : World) (h2 : x ≤ 29) : Calls Tryd.prog 44 #[.int .i64 (x : Nat)] w fun e w' => e = .returned (.tuple #[.int .i64 (dl x : Nat), .int .i64 (db x : Nat), .bool true]) ∧ w' = w := by
  go_enter Tryd.func44, Tryd.ntmps44
  go_wp2_with fail
  go_loop [5, 6] (fun l i => ∃ k : Nat, k ≤ x ∧ i = .int .i64 (k : Nat) ∧ l = .int .i64 (dl k : Nat)) (fun _ i => x - (intOf i).toNat)
  case atStart => exact ⟨0, by omega, rfl, rfl⟩
  case round =>
    obtain ⟨k, hk2, rfl, rfl⟩ := hrel
    by_cases hlt : k < x
    · have hl := dl_le k (by omega)
      have hb := db_le k (by omega)
      have hst : dl k + 2 ^ db k = dl (k + 1) := rfl
      have hsv := sum_val (dl k) (db k) _ (by omega) (by omega) hst
      have HSV := hid hsv
      clear hst hsv
      go_wp2_with fail
      refine (wide_any k w (by omega)).mono ?_
      rintro e w1 ⟨rfl, rfl⟩
      generalize db k = b at *
      generalize dl k = a at *
      go_wp2_with fail
      exact ⟨⟨k + 1, by omega, by go_num, by rw [HSV.out]⟩, by simp [intOf]; omega⟩
    · obtain rfl : k = x := by omega
      go_wp2_with fail
      refine (wide_any k w (by omega)).mono ?_
      rintro e w1 ⟨rfl, rfl⟩
      go_wp2
      go_ret3
      exact ⟨rfl, rfl⟩

/-- What both say of any number. -/
def LenSays (x : Int) (e : Ending) : Prop := ∃ a b : Int, ∃ ok : Bool, e = .returned (.tuple #[.int .i64 a, .int .i64 b, .bool ok]) ∧ ((¬ (257 ≤ x ∧ x ≤ 285) ∧ a = 0 ∧ b = 0 ∧ ok = false) ∨ (257 ≤ x ∧ x ≤ 285 ∧ a = (lenN x.toNat : Nat) ∧ b = (lb x.toNat : Nat) ∧ ok = true))
def DistSays (x : Int) (e : Ending) : Prop := ∃ a b : Int, ∃ ok : Bool, e = .returned (.tuple #[.int .i64 a, .int .i64 b, .bool ok]) ∧ ((¬ (0 ≤ x ∧ x ≤ 29) ∧ a = 0 ∧ b = 0 ∧ ok = false) ∨ (0 ≤ x ∧ x ≤ 29 ∧ a = (dl x.toNat : Nat) ∧ b = (db x.toNat : Nat) ∧ ok = true))

theorem len_any (x : Int) (w : World) : Calls Tryd.prog 73 #[.int .i64 x] w fun e w' => LenSays x e ∧ w' = w := by
  by_cases h : 257 ≤ x ∧ x ≤ 285
  · obtain ⟨n, rfl⟩ := Int.eq_ofNat_of_zero_le (show 0 ≤ x by omega)
    refine (len_in n w (by omega) (by omega)).mono ?_
    rintro e w' ⟨rfl, rfl⟩
    exact ⟨⟨_, _, _, rfl, .inr ⟨h.1, h.2, rfl, rfl, rfl⟩⟩, rfl⟩
  · refine (len_out x w (by omega)).mono ?_
    rintro e w' ⟨rfl, rfl⟩
    exact ⟨⟨_, _, _, rfl, .inl ⟨h, rfl, rfl, rfl⟩⟩, rfl⟩

theorem rlen_any (x : Int) (w : World) : Calls Tryd.prog 43 #[.int .i64 x] w fun e w' => LenSays x e ∧ w' = w := by
  by_cases h : 257 ≤ x ∧ x ≤ 285
  · obtain ⟨n, rfl⟩ := Int.eq_ofNat_of_zero_le (show 0 ≤ x by omega)
    by_cases h5 : n = 285
    · subst h5
      refine (rlen_last w).mono ?_
      rintro e w' ⟨rfl, rfl⟩
      exact ⟨⟨_, _, _, rfl, .inr ⟨h.1, h.2, rfl, rfl, rfl⟩⟩, rfl⟩
    · refine (rlen_in n w (by omega) (by omega)).mono ?_
      rintro e w' ⟨rfl, rfl⟩
      exact ⟨⟨_, _, _, rfl, .inr ⟨h.1, h.2, rfl, rfl, rfl⟩⟩, rfl⟩
  · refine (rlen_out x w (by omega)).mono ?_
    rintro e w' ⟨rfl, rfl⟩
    exact ⟨⟨_, _, _, rfl, .inl ⟨h, rfl, rfl, rfl⟩⟩, rfl⟩

theorem dist_any (x : Int) (w : World) : Calls Tryd.prog 74 #[.int .i64 x] w fun e w' => DistSays x e ∧ w' = w := by
  by_cases h : 0 ≤ x ∧ x ≤ 29
  · obtain ⟨n, rfl⟩ := Int.eq_ofNat_of_zero_le (show 0 ≤ x by omega)
    refine (dist_in n w (by omega)).mono ?_
    rintro e w' ⟨rfl, rfl⟩
    exact ⟨⟨_, _, _, rfl, .inr ⟨h.1, h.2, rfl, rfl, rfl⟩⟩, rfl⟩
  · refine (dist_out x w (by omega)).mono ?_
    rintro e w' ⟨rfl, rfl⟩
    exact ⟨⟨_, _, _, rfl, .inl ⟨h, rfl, rfl, rfl⟩⟩, rfl⟩

theorem rdist_any (x : Int) (w : World) : Calls Tryd.prog 44 #[.int .i64 x] w fun e w' => DistSays x e ∧ w' = w := by
  by_cases h : 0 ≤ x ∧ x ≤ 29
  · obtain ⟨n, rfl⟩ := Int.eq_ofNat_of_zero_le (show 0 ≤ x by omega)
    refine (rdist_in n w (by omega)).mono ?_
    rintro e w' ⟨rfl, rfl⟩
    exact ⟨⟨_, _, _, rfl, .inr ⟨h.1, h.2, rfl, rfl, rfl⟩⟩, rfl⟩
  · refine (rdist_out x w (by omega)).mono ?_
    rintro e w' ⟨rfl, rfl⟩
    exact ⟨⟨_, _, _, rfl, .inl ⟨h, rfl, rfl, rfl⟩⟩, rfl⟩
end Go.Proofs.YtohcngiiijokkaaDoor

/- A byte appended to a list of bytes that the call owns, as a step of a statement whose order is open: the old list's bytes stay; conditions: together at most two to the forty-seventh bytes. -/
namespace Go.Proofs.YtohcngiiijokkaaDoor
open Go.RowKit

theorem run_append_keep {P : Program} (w : World) (t ty : TypeId) (e : TypeId) (i : TypeInfo) (z : Value) (bytes : Nat) (ht : P.underlying t = some (.slice e)) (hi : P.info? e = some i) (hz : i.zero = some z)
    (hsize : i.size = 1) (hby : i.bytes = bytes) (hzs : z.cells.size = 1) (g0 n c0 : Nat) (xs : List Value) (hown : w.ownsRow 0 e 1 (.slice (some ⟨g0, 0, none⟩) n c0) n xs)
    (ad : Addr) (m c : Nat) (news : List Value) (hl : news.length = m * 1) (hnews : ∀ j u, news[j]? = some u → w.cell? (ad.add j) = some u) (h1 : ∀ u ∈ news, u.oneCell' = true)
    (hm : 0 < m) (h63 : n + m ≤ maxLen) (hbytes : (n + m) * bytes ≤ 140737488355328) :
    ∃ g cap w', (Builtin.append_ #[t, t] ty #[.slice (some ⟨g0, 0, none⟩) n c0, .slice (some ad) m c]).run P w = .ok (.slice (some ⟨g, 0, none⟩) (n + m) cap) w' ∧
      w'.ownsRow 0 e 1 (.slice (some ⟨g, 0, none⟩) (n + m) cap) (n + m) (xs ++ news) ∧ w.grownBy w' (some g0) ∧ (g = g0 ∨ g = w.heap.size) ∧ ∀ j, j < n → w'.cell? ⟨g0, j, none⟩ = w.cell? ⟨g0, j, none⟩ := by
  obtain ⟨g, cap, w', hr, h2, h3, h4, h5⟩ := run_append_lies (P := P) w t ty 0 e i z 1 bytes ht hi hz hsize hby hzs (by decide) _ n xs hown ad m c news hl hnews h1 hm h63 hbytes (Nat.zero_le _) w.heap.size rfl
  have hg0 : (g = g0 ∨ g = w.heap.size) := by
    rcases h4 with h | h
    · simp [Value.ownBlock] at h
      exact .inl h.symm
    · exact .inr h
  refine ⟨g, cap, w', hr, h2, h3, hg0, fun j hj => ?_⟩
  have hxl : xs.length = n := by have := hown.1; omega
  rcases hown.2 with ⟨h, _⟩ | ⟨g1, cap1, cur, hv, _, hg, hnc, hcm, hcs, htake⟩
  · simp at h
  · simp at hv
    obtain ⟨rfl, rfl⟩ := hv
    have hold : w.cell? ⟨g0, j, none⟩ = some (xs[j]'(by omega)) := by
      have := hown.cells (g := g0) rfl j (xs[j]'(by omega)) (by rw [List.getElem?_eq_getElem (by omega)])
      rwa [add_zero] at this
    by_cases hroom : n + m ≤ c0
    · have hr2 := run_append_room (P := P) w t ty e i ht hi g0 n c0 cur hg ad m c news (by rw [hsize]; exact hl) hnews h1 hroom (by rw [hsize]; simp at hl hcs; omega)
      rw [hr] at hr2
      simp only [Result.ok.injEq, Value.slice.injEq, Option.some.injEq, Addr.mk.injEq] at hr2
      obtain ⟨⟨⟨hgg, _, _⟩, _⟩, _⟩ := hr2
      subst hgg
      have := h2.cells (g := g) rfl j (xs[j]'(by omega)) (by rw [List.getElem?_append_left (by omega), List.getElem?_eq_getElem (by omega)])
      rw [add_zero] at this
      rw [this, hold]
    · have holds : ∀ j u, xs[j]? = some u → w.cell? ((⟨g0, 0, none⟩ : Addr).add j) = some u := hown.cells (g := g0) rfl
      have hr2 := run_append_grow (P := P) w t ty e i z ht hi hz ⟨g0, 0, none⟩ n c0 xs (by rw [hsize]; omega) holds ad m c news (by rw [hsize]; exact hl) hnews (by omega) (by unfold maxLen at h63; omega) (by rw [hby]; exact growslice_fits (by omega) hbytes)
      rw [hr] at hr2
      simp only [Result.ok.injEq] at hr2
      rw [hr2.2]
      exact World.cell?_of_block (Below.heap_alloc w.drew _ g0 (lt_of_block hg))

/-- At a step of a region that draws its order. -/
theorem step_append_keep {P : Program} (w : World) {ops : Array Oper} {o : Oper} {a : Act} {K : Act → World → Prop} {Q : Exit → Act → World → Prop} {E : Prop} (hgd : o.guard = none) (s x : Operand) (t : TypeId)
    (ho : o.op = .call { callee := .builtin .append, args := #[s, x], argTypes := #[t, t] })
    (e : TypeId) (i : TypeInfo) (z : Value) (bytes : Nat) (ht : P.underlying t = some (.slice e)) (hi : P.info? e = some i) (hz : i.zero = some z)
    (hsize : i.size = 1) (hby : i.bytes = bytes) (hzs : z.cells.size = 1) (g0 n c0 : Nat) (xs : List Value) (hs : a.eval s = .slice (some ⟨g0, 0, none⟩) n c0) (hown : w.ownsRow 0 e 1 (.slice (some ⟨g0, 0, none⟩) n c0) n xs)
    (ad : Addr) (m c : Nat) (news : List Value) (hx : a.eval x = .slice (some ad) m c) (hl : news.length = m * 1) (hnews : ∀ j u, news[j]? = some u → w.cell? (ad.add j) = some u) (h1 : ∀ u ∈ news, u.oneCell' = true)
    (hm : 0 < m) (h63 : n + m ≤ maxLen) (hbytes : (n + m) * bytes ≤ 140737488355328) (H : Nat) (hH : w.heap.size = H)
    (h : ∀ g cap w', w'.ownsRow 0 e 1 (.slice (some ⟨g, 0, none⟩) (n + m) cap) (n + m) (xs ++ news) → w.grownBy w' (some g0) → (g = g0 ∨ g = H) → (∀ j, j < n → w'.cell? ⟨g0, j, none⟩ = w.cell? ⟨g0, j, none⟩) → K (a.put o.dst (.slice (some ⟨g, 0, none⟩) (n + m) cap)) w') :
    if Region.wanted o (yielded ops a.tmps) = true then Oper.wp P o a w K Q else E := by
  have hw : Region.wanted o (yielded ops a.tmps) = true := by simp [Region.wanted, hgd]
  rw [if_pos hw]
  obtain ⟨g, cap, w', hr, h2, h3, h4, h5⟩ := run_append_keep (P := P) w t o.type e i z bytes ht hi hz hsize hby hzs g0 n c0 xs hown ad m c news hl hnews h1 hm h63 hbytes
  unfold Oper.wp execOp
  simp only [ho, resolve, invoke, builtin, Sem.run_bind, Sem.run_pure, Result.andThen_ok, List.map_toArray, List.map_cons, List.map_nil, hs, hx, hr]
  exact h g cap w' h2 h3 (by rw [← hH]; exact h4) h5
end Go.Proofs.YtohcngiiijokkaaDoor

/- Each length and each distance is told by just one symbol: plain counts; no condition. -/
namespace Go.Proofs.YtohcngiiijokkaaDoor

def pl (L s : Nat) : Bool := decide (257 ≤ s ∧ s ≤ 285 ∧ lenN s ≤ L ∧ L < lenN s + 2 ^ lb s ∧ (s ≠ 284 ∨ L ≠ 258))
def pd (D s : Nat) : Bool := decide (s ≤ 29 ∧ dl s ≤ D ∧ D < dl s + 2 ^ db s)
def cnt (p : Nat → Bool) : Nat → Nat
  | 0 => 0
  | k + 1 => cnt p k + (p k).toNat
theorem cnt_le (p : Nat → Bool) : ∀ k, cnt p k ≤ k
  | 0 => Nat.le_refl _
  | k + 1 => by have := cnt_le p k; have := Bool.toNat_le (p k); simp only [cnt]; omega

theorem one_len : ∀ L, L < 259 → 3 ≤ L → cnt (pl L) 300 = 1 := by decide +kernel

theorem dl_pos : ∀ k, 1 ≤ dl k
  | 0 => Nat.le_refl _
  | k + 1 => by have := dl_pos k; rw [dl]; exact Nat.le_trans this (Nat.le_add_right _ _)

theorem cnt_dist (D : Nat) : ∀ k, k ≤ 30 → cnt (pd D) k = if 1 ≤ D ∧ D < dl k then 1 else 0
  | 0, _ => by
    rw [if_neg (by simp [dl]; omega)]
    rfl
  | k + 1, h => by
    have hp := dl_pos k
    have hs : dl (k + 1) = dl k + 2 ^ db k := rfl
    have hpw : 0 < 2 ^ db k := Nat.pow_pos (by decide)
    rw [cnt, cnt_dist D k (by omega)]
    by_cases h1 : 1 ≤ D ∧ D < dl k
    · rw [if_pos h1, if_pos (by omega)]
      have : pd D k = false := decide_eq_false (by omega)
      rw [this]
      rfl
    · rw [if_neg h1]
      by_cases h2 : dl k ≤ D ∧ D < dl k + 2 ^ db k
      · have : pd D k = true := decide_eq_true ⟨by omega, h2⟩
        rw [this, if_pos (by omega)]
        rfl
      · have : pd D k = false := decide_eq_false (by omega)
        rw [this, if_neg (by omega)]
        rfl

theorem cnt_past (D : Nat) : ∀ k, cnt (pd D) (30 + k) = cnt (pd D) 30
  | 0 => rfl
  | k + 1 => by
    have : pd D (30 + k) = false := decide_eq_false (by omega)
    rw [← Nat.add_assoc, cnt, cnt_past D k, this]
    rfl

theorem one_dist (D : Nat) (h1 : 1 ≤ D) (h2 : D ≤ 32768) : cnt (pd D) 300 = 1 := by
  have h := cnt_past D 270
  rw [show 30 + 270 = 300 by rfl] at h
  rw [h, cnt_dist D 30 (by omega)]
  have : dl 30 = 32769 := by decide
  rw [this, if_pos (by omega)]
end Go.Proofs.YtohcngiiijokkaaDoor
