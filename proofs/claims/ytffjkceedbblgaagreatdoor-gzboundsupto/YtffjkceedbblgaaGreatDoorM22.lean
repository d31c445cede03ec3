/- Texts of this proof, one behind the other: what each says stands ahead of it. -/
import Derived.Test.YtffjkceedbblgaaGreatDoorM21
import Derived.Deep.LoopGhost
import Derived.Deep.MidRow
/- lengths of an unpacker: what they come to; conditions: the table is one, at most a thousand are wanted. -/
namespace Go.Proofs.YtffjkceedbblgaaGreatDoor
open Go.RowKit Go.Lib

/-- Numbers that were told, in a list of the call's own; of old only the reader's block may have turned. -/
structure Tl (W0 wr : World) (r : Nat) (v : Value) (told : List Nat) : Prop where
  own : wr.ownsRow 0 3 1 v told.length (natsV told)
  new : ∀ g, v.ownBlock = some g → W0.heap.size ≤ g
  touch : Touch (fun k => k = r) W0 wr
  small : ∀ x ∈ told, x ≤ 15

theorem own_stays {w w' : World} {n : Nat} {v : Value} {xs : List Value} (h : w.ownsRow 0 3 1 v n xs) (hk : ∀ g, v.ownBlock = some g → w'.heap[g]? = w.heap[g]?) : w'.ownsRow 0 3 1 v n xs := by
  refine ⟨h.1, ?_⟩
  rcases h.2 with h0 | ⟨g, cap, cur, hv, hg, hh, rest⟩
  · exact .inl h0
  · exact .inr ⟨g, cap, cur, hv, hg, (hk g (by rw [hv]; rfl)).trans hh, rest⟩
theorem own_cap {w : World} {n len cap : Nat} {a : Option Addr} {xs : List Value} (h : w.ownsRow 0 3 1 (.slice a len cap) n xs) : n ≤ cap := by
  rcases h.2 with ⟨hv, h0⟩ | ⟨g, cap', cur, hv, _, _, hle, _⟩
  · omega
  · simp only [Value.slice.injEq] at hv
    omega

theorem Tl.reads {W0 wr w1 : World} {r : Nat} {v : Value} {told : List Nat} {s : ByteArray} {t t' : Nat} (h : Tl W0 wr r v told) (hr : Rd wr r s t) (st : RStep wr w1 r s t') : Tl W0 w1 r v told := by
  unfold Rd at hr
  have hne := row_ne h.own hr (by decide)
  exact ⟨own_stays h.own (fun g hg => st.touch.block g (h.own.lt g hg).2 (fun e => hne (by rw [hg, e]))), h.new, h.touch.trans st.touch (fun _ _ e => e), h.small⟩

theorem Tl.more {W0 wr w1 : World} {r : Nat} {v v' : Value} {told : List Nat} {x : Nat} {o : Obj} (h : Tl W0 wr r v told) (hx : x ≤ 15) (hown : w1.ownsRow 0 3 1 v' (told.length + 1) (natsV told ++ [.int .i64 (x : Nat)])) (hg : (wr.alloc o).grownBy w1 v.ownBlock) (hat : v'.ownBlock = v.ownBlock ∨ v'.ownBlock = some (wr.heap.size + 1)) : Tl W0 w1 r v' (told ++ [x]) := by
  refine ⟨?_, fun g hg' => ?_, (h.touch.alloc o).grown hg (fun k e hk => by have := h.new k e; omega), fun y hy => ?_⟩
  · rw [List.length_append]
    unfold natsV at hown ⊢
    rw [List.map_append]
    exact hown
  · rcases hat with e | e
    · exact h.new g (by rw [← e]; exact hg')
    · rw [e] at hg'
      simp at hg'
      have := h.touch.size
      omega
  · rcases List.mem_append.1 hy with hy | hy
    · exact h.small y hy
    · simp only [List.mem_singleton] at hy
      omega

theorem rd_grown {wr w1 : World} {r : Nat} {v : Value} {told : List Nat} {W0 : World} {s : ByteArray} {t : Nat} {o : Obj} (h : Tl W0 wr r v told) (hr : Rd wr r s t) (hg : (wr.alloc o).grownBy w1 v.ownBlock) : Rd w1 r s t := by
  have hne := row_ne h.own (show wr.heap[r]? = _ from hr) (by decide)
  have hlt := hr.lt
  unfold Rd at hr ⊢
  rw [hg.block r (by simp; omega) (fun e => hne e.symm), Below.heap_alloc _ _ _ hlt]
  exact hr

theorem Tl.ints {W0 wr : World} {r : Nat} {v : Value} {told : List Nat} (h : Tl W0 wr r v told) : ∃ a c, v = .slice a told.length c ∧ Ints wr a told.length (fun j => ((told.getD j 0 : Nat) : Int)) := by
  have e : natsV told = (List.range told.length).map fun j => .int .i64 ((told.getD j 0 : Nat) : Int) := by
    apply List.ext_getElem
    · simp [natsV]
    · intro i h1 h2
      have hi : i < told.length := by simpa [natsV] using h1
      simp [natsV, List.getElem?_eq_getElem hi]
  have := h.own
  rw [e] at this
  exact own_ints' this

theorem up_tl {w wr : World} {ub r : Nat} {v : Value} {out : List Nat} {most : Int} {tl td : Option Addr} {s : ByteArray} {t : Nat} (h : Up w ub r v out most tl td) (hr : Rd w r s t) (tc : Touch (fun k => k = r) w wr) : Up wr ub r v out most tl td := h.reads hr tc

theorem valT_le {i : Nat} {told : List Nat} (hi : i < 19) (h : ∀ x ∈ told, x ≤ 15) : Inf.valT i told ≤ 15 := by
  unfold Inf.valT
  split
  · rw [List.getD_eq_getElem?_getD]
    cases hg : told[told.length - 1]? with
    | none => decide
    | some y => exact h y (List.mem_of_getElem? hg)
  · split
    · omega
    · split <;> omega

theorem rval_7 (s : ByteArray) (t i : Nat) : Inf.leastT i + Bt.rval s t (Inf.moreBits i) ≤ 150 := by
  have hm : Inf.moreBits i ≤ 7 := by
    unfold Inf.moreBits
    split
    · omega
    · split
      · omega
      · split <;> omega
  have hl : Inf.leastT i ≤ 11 := by
    unfold Inf.leastT
    split
    · omega
    · split
      · omega
      · split <;> omega
  have h1 := Bt.rval_lt s t (Inf.moreBits i)
  have h2 : 2 ^ Inf.moreBits i ≤ 2 ^ 7 := Nat.pow_le_pow_right (by decide) hm
  omega

/-- What lengths leaves. -/
def LnPost (f : Nat → Nat) (wanted t0 : Nat) (s : ByteArray) (r : Nat) (w : World) (e : Ending) (w' : World) : Prop :=
  ∃ er t' told, Inf.Le f 19 s wanted t0 [] er t' told ∧ t' ≤ 8 * s.size ∧ RStep w w' r s t' ∧
    ((er ≠ 0 ∧ e = .returned (.tuple #[.slice none 0 0, .int .i64 (er : Nat)])) ∨ (er = 0 ∧ told.length = wanted ∧ (∀ x ∈ told, x ≤ 15) ∧ ∃ a cap, e = .returned (.tuple #[.slice a told.length cap, .int .i64 0]) ∧ Ints w' a told.length (fun j => ((told.getD j 0 : Nat) : Int)) ∧ told.length ≤ cap))

set_option maxRecDepth 100000 in
set_option maxHeartbeats 4000000 in
theorem lengths_any (ub r bt lo hi : Nat) (v : Value) (out : List Nat) (most : Int) (tl td : Option Addr) (s : ByteArray) (t0 wanted : Nat) (f : Nat → Nat) (w : World) (h : Up w ub r v out most tl td) (hr : Rd w r s t0) (hs : s.size ≤ 140737488351232) (ht : t0 ≤ 8 * s.size)
    (hT : Inf.Tbl f 19) (hB : TblIn w bt f 19 lo hi) (hap : ∀ k, lo ≤ k → k < hi → k ≠ r) (hw : wanted ≤ 1000) :
    Calls Tryz.prog 104 #[.pointer (some ⟨ub, 0, none⟩), .pointer (some ⟨bt, 0, none⟩), .int .i64 (wanted : Nat)] w (LnPost f wanted t0 s r w) := by
  obtain ⟨i0, hin, hz0, hz1, hz2⟩ := info_parts info3
  have HU := hid h
  have HR := hid hr
  have HB := hid hB
  have HAP := hid hap
  clear h hr hB hap
  go_enter Tryz.func104, Tryz.ntmps104
  go_wp2_with fail
  go_loopg [8] (8 * s.size + 1 - t0) (fun gk v8 wr => ∃ (t : Nat) (told : List Nat), t + gk = 8 * s.size + 1 ∧ t ≤ 8 * s.size ∧ told.length ≤ wanted ∧ Tl w wr r v8 told ∧ Rd wr r s t ∧ (∀ er t' told', Inf.Le f 19 s wanted t told er t' told' → Inf.Le f 19 s wanted t0 [] er t' told'))
  case atStart => exact ⟨t0, [], by omega, ht, Nat.zero_le _, ⟨by simpa [natsV] using World.ownsRow_nil _ _ _ _, by intro g h; simp [Value.ownBlock] at h, Touch.refl _ _, by simp⟩, HR.out, fun _ _ _ h => h⟩
  case round =>
    obtain ⟨t, told, hgk, htt, hlen, htl, hrd, hback⟩ := hrel
    have TLx := hid htl
    have RD := hid hrd
    have BK := hid hback
    have UP := hid (up_tl HU.out HR.out htl.touch)
    have TB := hid (HB.out.kept htl.touch (fun k h1 h2 e => HAP.out k h1 h2 e))
    obtain ⟨av, cv, hav, hints⟩ := htl.ints
    have IN := hid hints
    subst hav
    have c0 := (up_cells UP.out).1
    clear htl hrd hback hints
    by_cases hlt : told.length < wanted
    · obtain ⟨er, i, t1, hn⟩ : ∃ er i t1, Inf.nx f 19 s t = (er, i, t1) := ⟨_, _, _, rfl⟩
      have hnf := Inf.nx_fits hn htt
      have NX := hid (next_nx bt r t lo hi f 19 s wr hT TB.out RD.out (by omega) htt)
      rw [hn] at NX
      have HN := hid hn
      clear hn
      go_wp2_with fail
      refine NX.out.mono ?_
      rintro e w1 ⟨rfl, st1⟩
      have TL1 := hid (TLx.out.reads RD.out st1)
      have UP1 := hid (UP.out.reads RD.out st1.touch)
      have RD1 := hid st1.rd
      have IN1 := hid (show Ints w1 av told.length (fun j => ((told.getD j 0 : Nat) : Int)) from by
        obtain ⟨a2, c2, hv2, hi2⟩ := TL1.out.ints
        simp only [Value.slice.injEq] at hv2
        obtain ⟨rfl, _, _⟩ := hv2
        exact hi2)
      clear st1 NX
      by_cases her : er = 0
      · subst her
        have hlt1 := hnf.2.2.1 rfl
        have ht1 := hnf.1
        by_cases h0 : i = 16 ∧ told.length = 0
        · have h16 := h0.1
          have hl0 := h0.2
          subst h16
          rw [hl0]
          have HL0 := hid hl0
          clear hl0 h0
          go_wp2_with fail
          refine (toldBy_none ub av cv w1).mono ?_
          rintro e w2 ⟨rfl, rfl⟩
          go_wp2
          go_ret2
          exact ⟨5, t1, [], BK.out _ _ _ (.none t told hlt t1 HN.out HL0.out), ht1, ⟨RD1.out, TL1.out.touch⟩, .inl ⟨by decide, rfl⟩⟩
        · have TD := hid (toldBy_any ub r v out most tl td s t1 i told av cv w1 UP1.out RD1.out hs ht1 IN1.out h0 (by omega))
          have H0 := hid h0
          clear h0
          go_wp2_with fail
          refine TD.out.mono ?_
          rintro e w2 hp
          rcases hp with ⟨hfit, rfl, st2⟩ | ⟨hcut, ⟨x, y, rfl⟩, st2⟩
          · have TL2 := hid (TL1.out.reads RD1.out st2)
            have RD2 := hid st2.rd
            have hb150 := rval_7 s t1 i
            have hv15 := valT_le hlt1.2.1 TL1.out.small
            obtain ⟨n, hnn⟩ : ∃ n, n = Inf.leastT i + Bt.rval s t1 (Inf.moreBits i) := ⟨_, rfl⟩
            obtain ⟨y, hyy⟩ : ∃ y, y = Inf.valT i told := ⟨_, rfl⟩
            rw [← hnn] at hb150 ⊢
            rw [← hyy] at hv15 ⊢
            have HNN := hid hnn
            have HYY := hid hyy
            clear st2 hnn hyy TD
            by_cases hmany : wanted < told.length + n
            · go_wp2
              go_ret2
              exact ⟨5, t1 + Inf.moreBits i, [], BK.out _ _ _ (.many t told hlt i t1 HN.out H0.out hfit (by rw [← HNN.out]; exact hmany)), hfit, ⟨RD2.out, TL2.out.touch⟩, .inl ⟨by decide, rfl⟩⟩
            · go_wp2_with fail
              go_loopg [8, 47] n (fun g2 v8 c wx => ∃ j : Nat, j + g2 = n ∧ c = .int .i64 (j : Nat) ∧ Tl w wx r v8 (told ++ List.replicate j y) ∧ Rd wx r s (t1 + Inf.moreBits i))
              case atStart => exact ⟨0, by omega, rfl, by simpa using TL2.out, RD2.out⟩
              case round =>
                obtain ⟨j, hj, rfl, htl3, hrd3⟩ := hrel
                have TL3 := hid htl3
                have RD3 := hid hrd3
                obtain ⟨a3, c3, hav3, _⟩ := htl3.ints
                subst hav3
                clear htl3 hrd3
                have hl3 : (told ++ List.replicate j y).length = told.length + j := by simp
                by_cases hlt3 : j < n
                · have HL3 := hid hl3
                  clear hl3
                  obtain ⟨M, hM⟩ : ∃ M, M = (told ++ List.replicate j y).length := ⟨_, rfl⟩
                  have hMb : M ≤ 2000 := by rw [hM, HL3.out]; omega
                  have OW := hid TL3.out.own
                  rw [← hM] at OW ⊢
                  have HM := hid hM
                  clear hM
                  go_wp2_with (at_builtin; refine wpList_append_own_at _ rfl _ _ 68 rfl 0 3 i0 (.int .i64 0) 1 8 Tryz.underlying68 hin hz0 hz1 hz2 rfl (by decide) _ M _ rfl (OW.out.alloc _) ⟨wr.heap.size, 0, none⟩ 1 1 [.int .i64 (y : Nat)] rfl rfl (cell_one_new wr _ _) (by intro u hu; simp at hu; subst hu; rfl) (by unfold maxLen; omega) (by omega) (Nat.zero_le _) ?_)
                  intro v' w3 hown hgrow _ hat
                  rw [HM.out] at hown hgrow hat
                  have TL4 := hid (TL3.out.more hv15 hown hgrow hat)
                  have RD4 := hid (rd_grown TL3.out RD3.out hgrow)
                  clear hown hgrow hat
                  go_wp2
                  go_roundg (gk - 1)
                  case measure => omega
                  case rel => exact ⟨j + 1, by omega, by go_num, by rw [List.replicate_succ', ← List.append_assoc]; exact TL4.out, RD4.out⟩
                · obtain rfl : j = n := by omega
                  go_wp2
                  go_roundg (8 * s.size + 1 - (t1 + Inf.moreBits i))
                  case measure => omega
                  case rel =>
                    refine ⟨t1 + Inf.moreBits i, told ++ List.replicate j y, by omega, hfit, by rw [hl3]; omega, TL3.out, RD3.out, fun er t' told' hy => ?_⟩
                    refine BK.out er t' told' (.step t told hlt i t1 HN.out H0.out hfit (by rw [← HNN.out]; omega) er t' told' ?_)
                    rw [← HNN.out, ← HYY.out]
                    exact hy
          · have TL2 := hid (TL1.out.reads RD1.out st2)
            have RD2 := hid st2.rd
            clear st2 TD
            go_wp2
            go_ret2
            exact ⟨3, t1, [], BK.out _ _ _ (.cut t told hlt i t1 HN.out H0.out hcut), ht1, ⟨RD2.out, TL2.out.touch⟩, .inl ⟨by decide, rfl⟩⟩
      · have hne : ((er : Int) != 0) = true := by simp; omega
        have HE := hid her
        have e1 := (hnf.2.2.2.1 her).1
        have E1 := hid e1
        clear her e1
        go_wp2
        go_ret2
        exact ⟨er, t, [], BK.out _ _ _ (.err t told hlt er i t1 HN.out HE.out), htt, ⟨E1.out ▸ RD1.out, TL1.out.touch⟩, .inl ⟨HE.out, rfl⟩⟩
    · have hle : told.length = wanted := by omega
      have HLE := hid hle
      clear hle
      go_wp2
      go_ret2
      exact ⟨0, t, told, BK.out _ _ _ (.fin t told (by omega)), htt, ⟨RD.out, TLx.out.touch⟩, .inr ⟨rfl, HLE.out, TLx.out.small, av, cv, rfl, IN.out, own_cap TLx.out.own⟩⟩
end Go.Proofs.YtffjkceedbblgaaGreatDoor

/- The table by which lengths are told: what lengthTable comes to; condition: at most nineteen numbers. -/
namespace Go.Proofs.YtffjkceedbblgaaGreatDoor
open Go.RowKit Go.Lib

def ordL : List Nat := [16, 17, 18, 0, 8, 7, 9, 6, 10, 5, 11, 4, 12, 3, 13, 2, 14, 1, 15]
theorem ord_pos : ∀ k, k < 19 → ordL.getD k 0 < 19 ∧ Inf.posL.getD (ordL.getD k 0) 0 = k := by decide
theorem pos_ord : ∀ i, i < 19 → Inf.posL.getD i 0 < 19 ∧ ordL.getD (Inf.posL.getD i 0) 0 = i := by decide

/-- Nineteen numbers in a block. -/
def arr19 (f : Nat → Nat) : Array Value := ((List.range 19).map fun i => Value.int .i64 (f i : Nat)).toArray
def Blk19 (w : World) (b : Nat) (f : Nat → Nat) : Prop := w.heap[b]? = some (.cells (arr19 f) 138 (0, 0))

theorem Blk19.cell {w : World} {b : Nat} {f : Nat → Nat} (h : Blk19 w b f) (i : Nat) (hi : i < 19) : w.cell? ⟨b, i, none⟩ = some (.int .i64 (f i : Nat)) := by
  unfold Blk19 at h
  simp [World.cell?, h, arr19, hi]
theorem Blk19.free {w : World} {b : Nat} {f : Nat → Nat} (h : Blk19 w b f) (i : Nat) : w.frozen? ⟨b, i, none⟩ = false := by
  unfold Blk19 at h
  simp [World.frozen?, h]
theorem Blk19.set {w : World} {b : Nat} {f : Nat → Nat} (h : Blk19 w b f) (i x : Nat) : Blk19 (w.setCell ⟨b, i, none⟩ (.int .i64 (x : Nat))) b (fun j => if j = i then x else f j) := by
  unfold Blk19 at h ⊢
  rw [block_set h i]
  congr 2
  unfold arr19
  apply Array.ext'
  · simp only [Array.set!_eq_setIfInBounds, Array.toList_setIfInBounds]
    apply List.ext_getElem
    · simp
    · intro j h1 h2
      simp only [List.getElem_set, List.getElem_map, List.getElem_range]
      by_cases e : i = j
      · subst e; simp
      · rw [if_neg e, if_neg (fun h => e h.symm)]
theorem Blk19.same {w w' : World} {b : Nat} {f : Nat → Nat} (h : Blk19 w b f) (e : w'.heap[b]? = w.heap[b]?) : Blk19 w' b f := by
  unfold Blk19 at h ⊢
  rw [e]
  exact h
theorem Blk19.ext {w : World} {b : Nat} {f g : Nat → Nat} (h : Blk19 w b f) (e : ∀ i, i < 19 → f i = g i) : Blk19 w b g := by
  unfold Blk19 at h ⊢
  rw [h]
  congr 2
  unfold arr19
  congr 1
  apply List.map_congr_left
  intro i hi
  rw [e i (by simpa using hi)]
theorem Blk19.ints {w : World} {b : Nat} {f : Nat → Nat} (h : Blk19 w b f) : Ints w (some ⟨b, 0, none⟩) 19 (fun i => (f i : Nat)) :=
  .inr ⟨b, 0, rfl, lt_of_block (show w.heap[b]? = _ from h), fun i hi => by rw [Nat.zero_add]; exact h.cell i hi⟩

theorem lens3_step (s : ByteArray) (t k i : Nat) (hk : k < 19) (hi : i < 19) : (if i = ordL.getD k 0 then Bt.rval s (t + 3 * k) 3 else Inf.lens3 s t k i) = Inf.lens3 s t (k + 1) i := by
  obtain ⟨h1, h2⟩ := ord_pos k hk
  obtain ⟨h3, h4⟩ := pos_ord i hi
  unfold Inf.lens3
  by_cases e : i = ordL.getD k 0
  · rw [if_pos e, if_pos ⟨hi, by rw [e, h2]; omega⟩, e, h2]
  · rw [if_neg e]
    have hne : Inf.posL.getD i 0 ≠ k := fun h => e (by rw [← h, h4])
    by_cases g : Inf.posL.getD i 0 < k
    · rw [if_pos ⟨hi, g⟩, if_pos ⟨hi, by omega⟩]
    · rw [if_neg (fun h => g h.2), if_neg (fun h => by have := h.2; omega)]
theorem lens3_zero (s : ByteArray) (t i : Nat) : Inf.lens3 s t 0 i = 0 := by
  unfold Inf.lens3
  rw [if_neg (fun h => by have := h.2; omega)]
theorem lens3_le (s : ByteArray) (t n i : Nat) : Inf.lens3 s t n i ≤ 15 := by
  unfold Inf.lens3
  split
  · have := Bt.rval_lt s (t + 3 * Inf.posL.getD i 0) 3
    omega
  · omega

def setAll (cs : Array Value) : Nat → List Value → Array Value
  | _, [] => cs
  | o, v :: r => setAll (cs.set! o v) (o + 1) r
theorem block_setCells {b : Nat} {t : TypeId} : ∀ (vs : List Value) (o : Nat) (w : World) (cs : Array Value), w.heap[b]? = some (.cells cs t (0, 0)) → (w.setCells b o vs).heap[b]? = some (.cells (setAll cs o vs) t (0, 0))
  | [], _, _, _, h => h
  | v :: r, o, _, _, h => block_setCells r (o + 1) _ _ (block_set h o v)
theorem Touch.setCells {S : Nat → Prop} {a : World} {b : Nat} (hb : b < a.heap.size → S b) : ∀ (vs : List Value) (o : Nat) (w : World), Touch S a w → Touch S a (w.setCells b o vs)
  | [], _, _, h => h
  | v :: r, o, _, h => Touch.setCells hb r (o + 1) _ (h.setCell (p := ⟨b, o, none⟩) hb v)
theorem there_block {w : World} {b n : Nat} {cs : Array Value} {t : TypeId} (h : w.heap[b]? = some (.cells cs t (0, 0))) (hn : n ≤ cs.size) : w.there b 0 n := by
  intro j hj
  constructor
  · simp [World.cell?, h, show j < cs.size by omega]
  · simp [World.frozen?, h]

def ordN (k : Nat) : Nat := ordL.getD k 0
def zer19 : Array Value := arr19 (fun _ => 0)
theorem toList_setAll : ∀ (vs : List Value) (o : Nat) (cs : Array Value), o + vs.length ≤ cs.size → (setAll cs o vs).toList = cs.toList.take o ++ vs ++ cs.toList.drop (o + vs.length)
  | [], o, cs, h => by simp [setAll]
  | v :: r, o, cs, h => by
    simp only [List.length_cons] at h
    have hl : o < cs.toList.length := by simp; omega
    rw [setAll, toList_setAll r (o + 1) _ (by simp; omega)]
    simp only [Array.set!_eq_setIfInBounds, Array.toList_setIfInBounds, List.length_cons]
    rw [List.take_set, List.drop_set_of_lt (by omega), List.take_succ_eq_append_getElem hl, List.set_append_right _ _ (by simp; omega)]
    simp
    rw [show o + 1 + r.length = o + (r.length + 1) by omega]
    have : o - min o cs.size = 0 := by omega
    simp [this]
theorem set_all19 (f : Nat → Nat) : setAll zer19 0 (arr19 f).toList = arr19 f := by
  apply Array.ext'
  rw [toList_setAll _ _ _ (by simp [zer19, arr19])]
  simp [zer19, arr19]
theorem info113 : (Tryz.prog.info? 138).map (·.size) = some (arr19 ordN).size := by kernel_rfl
theorem size19 (f : Nat → Nat) : (arr19 f).size = 19 := by simp [arr19]
theorem one19 (f : Nat → Nat) : (arr19 f).all (·.oneCell') = true :=
  all_oneCell_toArray (fun v hv => by
    simp only [List.mem_map] at hv
    obtain ⟨i, _, rfl⟩ := hv
    rfl)

set_option maxRecDepth 100000 in
theorem order_any (w : World) : Calls Tryz.prog 66 #[] w fun e w' => e = .returned (.agg (arr19 ordN)) ∧ Touch (fun _ => False) w w' := by
  have fb0 : (w.alloc (.cells zer19 138)).heap[w.heap.size]? = some (.cells zer19 138 (0, 0)) := by
    show (w.heap.push _)[_]? = _
    simp
  have TH := hid (there_block (n := (arr19 ordN).size) fb0 (by simp [zer19, arr19]))
  have FB := hid (block_setCells (arr19 ordN).toList 0 _ _ fb0)
  rw [set_all19] at FB
  have TC := hid (Touch.setCells (S := fun _ => False) (a := w) (b := w.heap.size) (fun h => absurd h (Nat.lt_irrefl _)) (arr19 ordN).toList 0 _ ((Touch.refl _ w).alloc (.cells zer19 138)))
  clear fb0
  go_enter Tryz.func66, Tryz.ntmps66
  go_wp2_with (refine wpList_store_mid (by rfl) 138 _ _ (by rfl) w.heap.size 0 (arr19 ordN) (by rfl) (by rfl) TH.out info113 (one19 ordN) ?_)
  refine bodyPost_ret (results_c rfl _ _ w.heap.size 138 _ (0, 0) _ rfl FB.out Tryz.underlying138 rfl (by kernel_rfl)) rfl ?_
  exact ⟨rfl, TC.out⟩

/-- What lengthTable leaves. -/
def LtPost (s : ByteArray) (T n r : Nat) (w : World) (e : Ending) (w' : World) : Prop :=
  (T + 3 * n ≤ 8 * s.size ∧ RStep w w' r s (T + 3 * n) ∧
    ((errOf (Inf.lens3 s T n) 19 ≠ 0 ∧ e = .returned (.tuple #[.pointer none, .int .i64 (errOf (Inf.lens3 s T n) 19 : Nat)])) ∨
     (errOf (Inf.lens3 s T n) 19 = 0 ∧ ∃ b, e = .returned (.tuple #[.pointer (some ⟨b, 0, none⟩), .int .i64 0]) ∧ TblIn w' b (Inf.lens3 s T n) 19 w.heap.size w'.heap.size))) ∨
  (8 * s.size < T + 3 * n ∧ RStep w w' r s (T + 3 * ((8 * s.size - T) / 3)) ∧ e = .returned (.tuple #[.pointer none, .int .i64 3]))

set_option maxRecDepth 100000 in
set_option maxHeartbeats 4000000 in
theorem lengthTable_any (ub r : Nat) (v : Value) (out : List Nat) (most : Int) (tl td : Option Addr) (s : ByteArray) (T n : Nat) (w : World) (h : Up w ub r v out most tl td) (hr : Rd w r s T) (hs : s.size ≤ 140737488351232) (ht : T ≤ 8 * s.size) (hn : n ≤ 19) :
    Calls Tryz.prog 103 #[.pointer (some ⟨ub, 0, none⟩), .int .i64 (n : Nat)] w (LtPost s T n r w) := by
  have HU := hid h
  have HR := hid hr
  have hrl := hr.lt
  clear h hr
  have hal : Tryz.prog.arrayLen 138 = 19 := by kernel_rfl
  have hnI : (n : Int) ≤ 19 := by omega
  go_enter Tryz.func103, Tryz.ntmps103
  go_wp2_with fail
  refine (order_any w).mono ?_
  rintro e wA ⟨rfl, tcA⟩
  have TA := hid tcA
  have hszA := tcA.size
  have fb0 : (wA.alloc (.cells zer19 138)).heap[wA.heap.size]? = some (.cells zer19 138 (0, 0)) := by
    show (wA.heap.push _)[_]? = _
    simp
  have TH := hid (there_block (n := (arr19 ordN).size) fb0 (by simp [zer19, arr19]))
  have FB := hid (block_setCells (arr19 ordN).toList 0 _ _ fb0)
  rw [set_all19] at FB
  have TC := hid (Touch.setCells (S := fun _ => False) (a := w) (b := wA.heap.size) (fun h => by omega) (arr19 ordN).toList 0 _ (tcA.alloc (.cells zer19 138)))
  clear fb0 tcA
  go_wp2_with (refine wpList_store_mid (by rfl) 138 _ _ (by rfl) wA.heap.size 0 (arr19 ordN) (by rfl) (by rfl) (by exact TH.out) info113 (one19 ordN) ?_)
  rw [show Obj.cells #[.int .i64 0, .int .i64 0, .int .i64 0, .int .i64 0, .int .i64 0, .int .i64 0, .int .i64 0, .int .i64 0, .int .i64 0, .int .i64 0, .int .i64 0, .int .i64 0, .int .i64 0, .int .i64 0, .int .i64 0, .int .i64 0, .int .i64 0, .int .i64 0, .int .i64 0] 138 = Obj.cells zer19 138 from rfl]
  obtain ⟨ob, hob⟩ : ∃ ob, ob = wA.heap.size := ⟨_, rfl⟩
  rw [← hob] at FB TC ⊢
  obtain ⟨wB, hwB⟩ : ∃ wB, wB = (wA.alloc (.cells zer19 138)).setCells ob 0 (arr19 ordN).toList := ⟨_, rfl⟩
  rw [← hwB] at FB TC ⊢
  have hszB : ob < wB.heap.size := lt_of_block FB.out
  have hwob : w.heap.size ≤ ob := by omega
  clear hwB TH hob TA hszA
  have BO := hid (show Blk19 (wB.alloc (.cells zer19 138)) ob ordN from by unfold Blk19; rw [Below.heap_alloc _ _ _ hszB]; exact FB.out)
  have BL := hid (show Blk19 (wB.alloc (.cells zer19 138)) wB.heap.size (Inf.lens3 s T 0) from by
    refine Blk19.ext (f := fun _ => 0) ?_ (fun i _ => (lens3_zero s T i).symm)
    unfold Blk19
    show (wB.heap.push _)[_]? = _
    simp [zer19])
  have TD := hid (show Touch (fun k => k = r) w (wB.alloc (.cells zer19 138)) from (TC.out.alloc _).mono (fun _ _ e => e.elim))
  have RD := hid (show Rd (wB.alloc (.cells zer19 138)) r s T from by
    have := HR.out
    unfold Rd at this ⊢
    rw [(TC.out.alloc (.cells zer19 138)).block r hrl id]
    exact this)
  obtain ⟨bl, hbl⟩ : ∃ bl, bl = wB.heap.size := ⟨_, rfl⟩
  rw [← hbl] at BL ⊢
  have hblob : ob < bl := by omega
  clear hbl FB TC hszB
  generalize wB.alloc (.cells zer19 138) = wC at *
  go_loopg [16] n (fun gk i wr => ∃ k : Nat, k + gk = n ∧ i = .int .i64 (k : Nat) ∧ T + 3 * k ≤ 8 * s.size ∧ Blk19 wr ob ordN ∧ Blk19 wr bl (Inf.lens3 s T k) ∧ Rd wr r s (T + 3 * k) ∧ Touch (fun k => k = r) w wr)
  case atStart => exact ⟨0, by omega, rfl, by omega, BO.out, BL.out, RD.out, TD.out⟩
  case round =>
    obtain ⟨k, hk, rfl, hfit, hbo, hbl, hrd, htc⟩ := hrel
    have BO1 := hid hbo
    have BL1 := hid hbl
    have RD1 := hid hrd
    have TC1 := hid htc
    have UP1 := hid (HU.out.reads HR.out htc)
    have c0 := (up_cells UP1.out).1
    clear hbo hbl hrd htc BO BL RD TD
    by_cases hlt : k < n
    · have d0 := BO1.out.cell k (by omega)
      have ho := ord_pos k (by omega)
      obtain ⟨q, hq⟩ : ∃ q, q = ordN k := ⟨_, rfl⟩
      rw [← hq] at d0
      have hq19 : q < 19 := by rw [hq]; exact ho.1
      have HQ := hid hq
      clear hq ho
      by_cases hf3 : T + 3 * k + 3 ≤ 8 * s.size
      · have K := hid (take_yes r s (T + 3 * k) 3 wr RD1.out (by omega) (by decide) hf3)
        obtain ⟨x, hx⟩ : ∃ x, x = Bt.rval s (T + 3 * k) 3 := ⟨_, rfl⟩
        rw [← hx] at K
        have HX := hid hx
        clear hx
        go_wp2_with fail
        refine K.out.mono ?_
        rintro e w1 ⟨rfl, st⟩
        have hobr : ob ≠ r := by omega
        have hblr : bl ≠ r := by omega
        have BO2 := hid (BO1.out.same (st.touch.block ob (lt_of_block (show wr.heap[ob]? = _ from BO1.out)) hobr))
        have BL2 := hid (BL1.out.same (st.touch.block bl (lt_of_block (show wr.heap[bl]? = _ from BL1.out)) hblr))
        have RD2 := hid st.rd
        have TC2 := hid (TC1.out.trans st.touch (fun _ _ e => e))
        have d2 := BL2.out.cell q hq19
        have f2 := BL2.out.free q
        have hqI : (q : Int) < 19 := by omega
        clear st K
        go_wp2
        go_roundg (gk - 1)
        case measure => omega
        case rel =>
          refine ⟨k + 1, by omega, by go_num, by omega, BO2.out.same (Below.heap_setCell _ _ _ _ (by simp; omega)), ?_, ?_, TC2.out.setCell (p := ⟨bl, q, none⟩) (fun h => by simp at h; omega) _⟩
          · refine (BL2.out.set q x).ext (fun i hi => ?_)
            rw [HQ.out, HX.out]
            exact lens3_step s T k i (by omega) hi
          · have := RD2.out.setOther (q := bl) (fun e => hblr e.symm) q (.int .i64 (x : Nat))
            rw [show T + 3 * (k + 1) = T + 3 * k + 3 by omega]
            exact this
      · have K := hid (take_end r s (T + 3 * k) 3 wr RD1.out (by omega) (by decide) hfit (by omega))
        go_wp2_with fail
        refine K.out.mono ?_
        rintro e w1 ⟨rfl, st⟩
        have ST := hid (st.rstep RD1.out)
        clear st K
        go_wp2
        go_ret2
        refine .inr ⟨by omega, ?_, rfl⟩
        rw [show T + 3 * ((8 * s.size - T) / 3) = T + 3 * k by omega]
        exact ⟨ST.out.rd, TC1.out.trans ST.out.touch (fun _ _ e => e)⟩
    · obtain rfl : k = n := by omega
      by_cases he : errOf (Inf.lens3 s T k) 19 = 0
      · have NW := hid (new_ok (some ⟨bl, 0, none⟩) 19 19 (Inf.lens3 s T k) wr (by decide) (lens3_le s T k) BL1.out.ints he)
        go_wp2_with fail
        refine NW.out.mono ?_
        rintro e w1 ⟨b, rfl, tb, tc⟩
        have TB := hid (tb.wide (lo' := w.heap.size) (hi' := w1.heap.size) TC1.out.size (Nat.le_refl _))
        have RS := hid (show RStep w w1 r s (T + 3 * k) from ⟨by
          have := RD1.out
          unfold Rd at this ⊢
          rw [tc.block r (lt_of_block this) id]
          exact this, TC1.out.trans tc (fun _ _ e => e.elim)⟩)
        have HE := hid he
        clear tb tc NW he
        go_wp2
        go_ret2
        exact .inl ⟨hfit, RS.out, .inr ⟨HE.out, b, rfl, TB.out⟩⟩
      · have NW := hid (new_err (some ⟨bl, 0, none⟩) 19 19 (Inf.lens3 s T k) wr (by decide) (lens3_le s T k) BL1.out.ints he)
        go_wp2_with fail
        refine NW.out.mono ?_
        rintro e w1 ⟨rfl, tc⟩
        have RS := hid (show RStep w w1 r s (T + 3 * k) from ⟨by
          have := RD1.out
          unfold Rd at this ⊢
          rw [tc.block r (lt_of_block this) id]
          exact this, TC1.out.trans tc (fun _ _ e => e.elim)⟩)
        have HE := hid he
        clear tc NW he
        go_wp2
        go_ret2
        exact .inl ⟨hfit, RS.out, .inl ⟨HE.out, rfl⟩⟩
end Go.Proofs.YtffjkceedbblgaaGreatDoor
