/- lengths of an unpacker: what they come to; conditions: the table is one, at most a thousand are wanted. -/
import Derived.Test.YtokelpnmeknncabTd
import Derived.Deep.LoopGhost
namespace Go.Proofs.Ytokelpnmeknncab
open Go.RowKit Go.Lib

/-- Numbers that were told, in a list of the call's own; of old only the reader's block may have turned. -/
structure Tl (W0 wr : World) (r : Nat) (v : Value) (told : List Nat) : Prop where
  own : wr.ownsRow 0 3 1 v told.length (natsV told)
  new : ∀ g, v.ownBlock = some g → W0.heap.size ≤ g
  touch : Touch (fun k => k = r) W0 wr
  small : ∀ x ∈ told, x ≤ 15

theorem own_stays {w w' : World} {n : Nat} {v : Value} {xs : List Value} (h : w.ownsRow 0 3 1 v n xs) (hk : ∀ g, v.ownBlock = some g → w'.heap[g]? = w.heap[g]?) : w'.ownsRow 0 3 1 v n xs := by
  refine ⟨h.1, ?_⟩
  rcases h.2 with h0 | ⟨g, cap, cur, hv, hg, hh, rest⟩
  · exact .inl h0
  · exact .inr ⟨g, cap, cur, hv, hg, (hk g (by rw [hv]; rfl)).trans hh, rest⟩
theorem own_cap {w : World} {n len cap : Nat} {a : Option Addr} {xs : List Value} (h : w.ownsRow 0 3 1 (.slice a len cap) n xs) : n ≤ cap := by
  rcases h.2 with ⟨hv, h0⟩ | ⟨g, cap', cur, hv, _, _, hle, _⟩
  · omega
  · simp only [Value.slice.injEq] at hv
    omega

theorem Tl.reads {W0 wr w1 : World} {r : Nat} {v : Value} {told : List Nat} {s : ByteArray} {t t' : Nat} (h : Tl W0 wr r v told) (hr : Rd wr r s t) (st : RStep wr w1 r s t') : Tl W0 w1 r v told := by
  unfold Rd at hr
  have hne := row_ne h.own hr (by decide)
  exact ⟨own_stays h.own (fun g hg => st.touch.block g (h.own.lt g hg).2 (fun e => hne (by rw [hg, e]))), h.new, h.touch.trans st.touch (fun _ _ e => e), h.small⟩

theorem Tl.more {W0 wr w1 : World} {r : Nat} {v v' : Value} {told : List Nat} {x : Nat} {o : Obj} (h : Tl W0 wr r v told) (hx : x ≤ 15) (hown : w1.ownsRow 0 3 1 v' (told.length + 1) (natsV told ++ [.int .i64 (x : Nat)])) (hg : (wr.alloc o).grownBy w1 v.ownBlock) (hat : v'.ownBlock = v.ownBlock ∨ v'.ownBlock = some (wr.heap.size + 1)) : Tl W0 w1 r v' (told ++ [x]) := by
  refine ⟨?_, fun g hg' => ?_, (h.touch.alloc o).grown hg (fun k e hk => by have := h.new k e; omega), fun y hy => ?_⟩
  · rw [List.length_append]
    unfold natsV at hown ⊢
    rw [List.map_append]
    exact hown
  · rcases hat with e | e
    · exact h.new g (by rw [← e]; exact hg')
    · rw [e] at hg'
      simp at hg'
      have := h.touch.size
      omega
  · rcases List.mem_append.1 hy with hy | hy
    · exact h.small y hy
    · simp only [List.mem_singleton] at hy
      omega

theorem rd_grown {wr w1 : World} {r : Nat} {v : Value} {told : List Nat} {W0 : World} {s : ByteArray} {t : Nat} {o : Obj} (h : Tl W0 wr r v told) (hr : Rd wr r s t) (hg : (wr.alloc o).grownBy w1 v.ownBlock) : Rd w1 r s t := by
  have hne := row_ne h.own (show wr.heap[r]? = _ from hr) (by decide)
  have hlt := hr.lt
  unfold Rd at hr ⊢
  rw [hg.block r (by simp; omega) (fun e => hne e.symm), Below.heap_alloc _ _ _ hlt]
  exact hr

theorem Tl.ints {W0 wr : World} {r : Nat} {v : Value} {told : List Nat} (h : Tl W0 wr r v told) : ∃ a c, v = .slice a told.length c ∧ Ints wr a told.length (fun j => ((told.getD j 0 : Nat) : Int)) := by
  have e : natsV told = (List.range told.length).map fun j => .int .i64 ((told.getD j 0 : Nat) : Int) := by
    apply List.ext_getElem
    · simp [natsV]
    · intro i h1 h2
      have hi : i < told.length := by simpa [natsV] using h1
      simp [natsV, List.getElem?_eq_getElem hi]
  have := h.own
  rw [e] at this
  exact own_ints' this

theorem up_tl {w wr : World} {ub r : Nat} {v : Value} {out : List Nat} {most : Int} {tl td : Option Addr} {s : ByteArray} {t : Nat} (h : Up w ub r v out most tl td) (hr : Rd w r s t) (tc : Touch (fun k => k = r) w wr) : Up wr ub r v out most tl td := h.reads hr tc

theorem valT_le {i : Nat} {told : List Nat} (hi : i < 19) (h : ∀ x ∈ told, x ≤ 15) : Inf.valT i told ≤ 15 := by
  unfold Inf.valT
  split
  · rw [List.getD_eq_getElem?_getD]
    cases hg : told[told.length - 1]? with
    | none => decide
    | some y => exact h y (List.mem_of_getElem? hg)
  · split
    · omega
    · split <;> omega

theorem rval_7 (s : ByteArray) (t i : Nat) : Inf.leastT i + Bt.rval s t (Inf.moreBits i) ≤ 150 := by
  have hm : Inf.moreBits i ≤ 7 := by
    unfold Inf.moreBits
    split
    · omega
    · split
      · omega
      · split <;> omega
  have hl : Inf.leastT i ≤ 11 := by
    unfold Inf.leastT
    split
    · omega
    · split
      · omega
      · split <;> omega
  have h1 := Bt.rval_lt s t (Inf.moreBits i)
  have h2 : 2 ^ Inf.moreBits i ≤ 2 ^ 7 := Nat.pow_le_pow_right (by decide) hm
  omega

/-- What lengths leaves. -/
def LnPost (f : Nat → Nat) (wanted t0 : Nat) (s : ByteArray) (r : Nat) (w : World) (e : Ending) (w' : World) : Prop :=
  ∃ er t' told, Inf.Le f 19 s wanted t0 [] er t' told ∧ t' ≤ 8 * s.size ∧ RStep w w' r s t' ∧
    ((er ≠ 0 ∧ e = .returned (.tuple #[.slice none 0 0, .int .i64 (er : Nat)])) ∨ (er = 0 ∧ told.length = wanted ∧ (∀ x ∈ told, x ≤ 15) ∧ ∃ a cap, e = .returned (.tuple #[.slice a told.length cap, .int .i64 0]) ∧ Ints w' a told.length (fun j => ((told.getD j 0 : Nat) : Int)) ∧ told.length ≤ cap))

set_option maxRecDepth 100000 in
set_option maxHeartbeats 4000000 in
theorem lengths_any (ub r bt lo hi : Nat) (v : Value) (out : List Nat) (most : Int) (tl td : Option Addr) (s : ByteArray) (t0 wanted : Nat) (f : Nat → Nat) (w : World) (h : Up w ub r v out most tl td) (hr : Rd w r s t0) (hs : s.size ≤ 140737488351232) (ht : t0 ≤ 8 * s.size)
    (hT : Inf.Tbl f 19) (hB : TblIn w bt f 19 lo hi) (hap : ∀ k, lo ≤ k → k < hi → k ≠ r) (hw : wanted ≤ 1000) :
    Calls Try.prog 64 #[.pointer (some ⟨ub, 0, none⟩), .pointer (some ⟨bt, 0, none⟩), .int .i64 (wanted : Nat)] w (LnPost f wanted t0 s r w) := by
  obtain ⟨i0, hin, hz0, hz1, hz2⟩ := info_parts info3
  have HU := hid h
  have HR := hid hr
  have HB := hid hB
  have HAP := hid hap
  clear h hr hB hap
  go_enter Try.func64, Try.ntmps64
  go_wp2_with fail
  go_loopg [8] (8 * s.size + 1 - t0) (fun gk v8 wr => ∃ (t : Nat) (told : List Nat), t + gk = 8 * s.size + 1 ∧ t ≤ 8 * s.size ∧ told.length ≤ wanted ∧ Tl w wr r v8 told ∧ Rd wr r s t ∧ (∀ er t' told', Inf.Le f 19 s wanted t told er t' told' → Inf.Le f 19 s wanted t0 [] er t' told'))
  case atStart => exact ⟨t0, [], by omega, ht, Nat.zero_le _, ⟨by simpa [natsV] using World.ownsRow_nil _ _ _ _, by intro g h; simp [Value.ownBlock] at h, Touch.refl _ _, by simp⟩, HR.out, fun _ _ _ h => h⟩
  case round =>
    obtain ⟨t, told, hgk, htt, hlen, htl, hrd, hback⟩ := hrel
    have TLx := hid htl
    have RD := hid hrd
    have BK := hid hback
    have UP := hid (up_tl HU.out HR.out htl.touch)
    have TB := hid (HB.out.kept htl.touch (fun k h1 h2 e => HAP.out k h1 h2 e))
    obtain ⟨av, cv, hav, hints⟩ := htl.ints
    have IN := hid hints
    subst hav
    have c0 := (up_cells UP.out).1
    clear htl hrd hback hints
    by_cases hlt : told.length < wanted
    · obtain ⟨er, i, t1, hn⟩ : ∃ er i t1, Inf.nx f 19 s t = (er, i, t1) := ⟨_, _, _, rfl⟩
      have hnf := Inf.nx_fits hn htt
      have NX := hid (next_nx bt r t lo hi f 19 s wr hT TB.out RD.out (by omega) htt)
      rw [hn] at NX
      have HN := hid hn
      clear hn
      go_wp2_with fail
      refine NX.out.mono ?_
      rintro e w1 ⟨rfl, st1⟩
      have TL1 := hid (TLx.out.reads RD.out st1)
      have UP1 := hid (UP.out.reads RD.out st1.touch)
      have RD1 := hid st1.rd
      have IN1 := hid (show Ints w1 av told.length (fun j => ((told.getD j 0 : Nat) : Int)) from by
        obtain ⟨a2, c2, hv2, hi2⟩ := TL1.out.ints
        simp only [Value.slice.injEq] at hv2
        obtain ⟨rfl, _, _⟩ := hv2
        exact hi2)
      clear st1 NX
      by_cases her : er = 0
      · subst her
        have hlt1 := hnf.2.2.1 rfl
        have ht1 := hnf.1
        by_cases h0 : i = 16 ∧ told.length = 0
        · have h16 := h0.1
          have hl0 := h0.2
          subst h16
          rw [hl0]
          have HL0 := hid hl0
          clear hl0 h0
          go_wp2_with fail
          refine (toldBy_none ub av cv w1).mono ?_
          rintro e w2 ⟨rfl, rfl⟩
          go_wp2
          go_ret2
          exact ⟨5, t1, [], BK.out _ _ _ (.none t told hlt t1 HN.out HL0.out), ht1, ⟨RD1.out, TL1.out.touch⟩, .inl ⟨by decide, rfl⟩⟩
        · have TD := hid (toldBy_any ub r v out most tl td s t1 i told av cv w1 UP1.out RD1.out hs ht1 IN1.out h0 (by omega))
          have H0 := hid h0
          clear h0
          go_wp2_with fail
          refine TD.out.mono ?_
          rintro e w2 hp
          rcases hp with ⟨hfit, rfl, st2⟩ | ⟨hcut, ⟨x, y, rfl⟩, st2⟩
          · have TL2 := hid (TL1.out.reads RD1.out st2)
            have RD2 := hid st2.rd
            have hb150 := rval_7 s t1 i
            have hv15 := valT_le hlt1.2.1 TL1.out.small
            obtain ⟨n, hnn⟩ : ∃ n, n = Inf.leastT i + Bt.rval s t1 (Inf.moreBits i) := ⟨_, rfl⟩
            obtain ⟨y, hyy⟩ : ∃ y, y = Inf.valT i told := ⟨_, rfl⟩
            rw [← hnn] at hb150 ⊢
            rw [← hyy] at hv15 ⊢
            have HNN := hid hnn
            have HYY := hid hyy
            clear st2 hnn hyy TD
            by_cases hmany : wanted < told.length + n
            · go_wp2
              go_ret2
              exact ⟨5, t1 + Inf.moreBits i, [], BK.out _ _ _ (.many t told hlt i t1 HN.out H0.out hfit (by rw [← HNN.out]; exact hmany)), hfit, ⟨RD2.out, TL2.out.touch⟩, .inl ⟨by decide, rfl⟩⟩
            · go_wp2_with fail
              go_loopg [8, 47] n (fun g2 v8 c wx => ∃ j : Nat, j + g2 = n ∧ c = .int .i64 (j : Nat) ∧ Tl w wx r v8 (told ++ List.replicate j y) ∧ Rd wx r s (t1 + Inf.moreBits i))
              case atStart => exact ⟨0, by omega, rfl, by simpa using TL2.out, RD2.out⟩
              case round =>
                obtain ⟨j, hj, rfl, htl3, hrd3⟩ := hrel
                have TL3 := hid htl3
                have RD3 := hid hrd3
                obtain ⟨a3, c3, hav3, _⟩ := htl3.ints
                subst hav3
                clear htl3 hrd3
                have hl3 : (told ++ List.replicate j y).length = told.length + j := by simp
                by_cases hlt3 : j < n
                · have HL3 := hid hl3
                  clear hl3
                  obtain ⟨M, hM⟩ : ∃ M, M = (told ++ List.replicate j y).length := ⟨_, rfl⟩
                  have hMb : M ≤ 2000 := by rw [hM, HL3.out]; omega
                  have OW := hid TL3.out.own
                  rw [← hM] at OW ⊢
                  have HM := hid hM
                  clear hM
                  go_wp2_with (at_builtin; refine wpList_append_own_at _ rfl _ _ 22 rfl 0 3 i0 (.int .i64 0) 1 8 Try.underlying22 hin hz0 hz1 hz2 rfl (by decide) _ M _ rfl (OW.out.alloc _) ⟨wr.heap.size, 0, none⟩ 1 1 [.int .i64 (y : Nat)] rfl rfl (cell_one_new wr _ _) (by intro u hu; simp at hu; subst hu; rfl) (by unfold maxLen; omega) (by omega) (Nat.zero_le _) ?_)
                  intro v' w3 hown hgrow _ hat
                  rw [HM.out] at hown hgrow hat
                  have TL4 := hid (TL3.out.more hv15 hown hgrow hat)
                  have RD4 := hid (rd_grown TL3.out RD3.out hgrow)
                  clear hown hgrow hat
                  go_wp2
                  go_roundg (gk - 1)
                  case measure => omega
                  case rel => exact ⟨j + 1, by omega, by go_num, by rw [List.replicate_succ', ← List.append_assoc]; exact TL4.out, RD4.out⟩
                · obtain rfl : j = n := by omega
                  go_wp2
                  go_roundg (8 * s.size + 1 - (t1 + Inf.moreBits i))
                  case measure => omega
                  case rel =>
                    refine ⟨t1 + Inf.moreBits i, told ++ List.replicate j y, by omega, hfit, by rw [hl3]; omega, TL3.out, RD3.out, fun er t' told' hy => ?_⟩
                    refine BK.out er t' told' (.step t told hlt i t1 HN.out H0.out hfit (by rw [← HNN.out]; omega) er t' told' ?_)
                    rw [← HNN.out, ← HYY.out]
                    exact hy
          · have TL2 := hid (TL1.out.reads RD1.out st2)
            have RD2 := hid st2.rd
            clear st2 TD
            go_wp2
            go_ret2
            exact ⟨3, t1, [], BK.out _ _ _ (.cut t told hlt i t1 HN.out H0.out hcut), ht1, ⟨RD2.out, TL2.out.touch⟩, .inl ⟨by decide, rfl⟩⟩
      · have hne : ((er : Int) != 0) = true := by simp; omega
        have HE := hid her
        have e1 := (hnf.2.2.2.1 her).1
        have E1 := hid e1
        clear her e1
        go_wp2
        go_ret2
        exact ⟨er, t, [], BK.out _ _ _ (.err t told hlt er i t1 HN.out HE.out), htt, ⟨E1.out ▸ RD1.out, TL1.out.touch⟩, .inl ⟨HE.out, rfl⟩⟩
    · have hle : told.length = wanted := by omega
      have HLE := hid hle
      clear hle
      go_wp2
      go_ret2
      exact ⟨0, t, told, BK.out _ _ _ (.fin t told (by omega)), htt, ⟨RD.out, TLx.out.touch⟩, .inr ⟨rfl, HLE.out, TLx.out.small, av, cv, rfl, IN.out, own_cap TLx.out.own⟩⟩
end Go.Proofs.Ytokelpnmeknncab
