/- Texts of this proof, one behind the other: what each says stands ahead of it. -/
import Derived.Test.YtnohikoeaepfpaaDoorM5
import Derived.Test.YtnohikoeaepfpaaDoorM4
/- The document's Parse of templates; conditions: the names lie in memory, at most 1048576 of them. -/
namespace Go.Proofs.YtnohikoeaepfpaaDoor
open Go.RowKit
open Go.Lib

/-- Two lists of the call's own: pieces, and the bytes of a text. -/
structure Two (w0 wr : World) (v7 : Value) (o : List Pc) (v8 : Value) (p : Bs) : Prop where
  oe : OwE w0 wr 57 v7 o
  ob : OwB w0 wr v8 p
  ne : ∀ g, v7.ownBlock = some g → v8.ownBlock ≠ some g
theorem Two.start (w : World) : Two w w (.slice none 0 0) [] (.slice none 0 0) [] := ⟨OwE.nil _ _, OwB.nil _, fun g h => by simp [Value.ownBlock] at h⟩
theorem Two.still {w0 wr w' : World} {v7 v8 : Value} {o : List Pc} {p : Bs} (h : Two w0 wr v7 o v8 p) (t : Touch (fun _ => False) wr w') : Two w0 w' v7 o v8 p := ⟨h.oe.still t, h.ob.still t, h.ne⟩
theorem Two.byte {w0 wr w1 : World} {v7 v8 v' : Value} {o : List Pc} {p : Bs} {c : UInt8} {ob : Obj} {k : Nat} (h : Two w0 wr v7 o v8 p) (hown : w1.ownsRow 0 5 1 v' (p.length + 1) (bv p ++ [.int .u8 (c.toNat : Int)])) (hg : (wr.alloc ob).grownBy w1 v8.ownBlock) (hat : v'.ownBlock = v8.ownBlock ∨ v'.ownBlock = some k) (hk : wr.heap.size ≤ k) : Two w0 w1 v7 o v' (p ++ [c]) := by
  have hb := h.ob.more hown hg hat hk
  refine ⟨⟨?_, h.oe.new, hb.touch⟩, hb, fun g hg7 => ?_⟩
  · refine (h.oe.own.alloc ob).kept hg ?_
    cases hv : v7.ownBlock with
    | none => exact .inl rfl
    | some g => exact .inr (fun e => h.ne g hv e.symm)
  · rcases hat with e | e
    · rw [e]; exact h.ne g hg7
    · rw [e]
      intro e2
      have := (h.oe.own.lt g hg7).2
      simp at e2
      omega
theorem Two.piece {w0 wr w1 : World} {v7 v8 v' : Value} {o : List Pc} {p : Bs} {x : Pc} {ob : Obj} {k : Nat} (h : Two w0 wr v7 o v8 p) (hown : w1.ownsRow 0 57 2 v' (o.length + 1) (flatR o ++ [sv x.t, gv x.g])) (hg : (wr.alloc ob).grownBy w1 v7.ownBlock) (hat : v'.ownBlock = v7.ownBlock ∨ v'.ownBlock = some k) (hk : wr.heap.size ≤ k) : Two w0 w1 v' (o ++ [x]) v8 p := by
  have he : OwE w0 w1 57 v' (o ++ [x]) := h.oe.moreA (xs := [x]) hown hg hat hk
  refine ⟨he, ⟨?_, h.ob.new, he.touch⟩, fun g hg7 e8 => ?_⟩
  · refine (h.ob.own.alloc ob).kept hg ?_
    cases hv : v8.ownBlock with
    | none => exact .inl rfl
    | some g => exact .inr (fun e => h.ne g e.symm hv)
  · rcases hat with e | e
    · rw [e] at hg7; exact h.ne g hg7 e8
    · rw [e] at hg7
      have := (h.ob.own.lt g e8).2
      simp at hg7
      omega
theorem Two.cut {w0 wr : World} {v7 v8 : Value} {o : List Pc} {p : Bs} (h : Two w0 wr v7 o v8 p) : Two w0 wr v7 o (.slice none 0 0) [] :=
  ⟨h.oe, ⟨World.ownsRow_nil _ _ _ _, by intro g h; simp [Value.ownBlock] at h, h.oe.touch⟩, fun g _ h => by simp [Value.ownBlock] at h⟩

theorem tk_sign {ns : List Bs} {r : Bs} (h : r[0]? ≠ some 36) : tk1 ns (36 :: r) = tkOf ns.length (signP ns r) := by
  rw [tk1, if_pos rfl, if_neg h, sgTk_is]
theorem G_none {ns : List Bs} {r : Bs} (h : r[0]? ≠ some 36) (hs : signP ns r = none) (o : List Pc) (p : Bs) (k : Nat) : G ns o p (36 :: r) k = .inr k :=
  G_bad (by rw [tk_sign h, hs]; rfl) (by simp) o p k
theorem G_over {ns : List Bs} {r : Bs} {g n : Nat} (h : r[0]? ≠ some 36) (hs : signP ns r = some (g, n)) (hg : ¬ g < ns.length) (o : List Pc) (p : Bs) (k : Nat) : G ns o p (36 :: r) k = .inr k :=
  G_bad (by rw [tk_sign h, hs]; exact if_neg hg) (by simp) o p k
theorem G_group {ns : List Bs} {r : Bs} {g n : Nat} (h : r[0]? ≠ some 36) (hs : signP ns r = some (g, n)) (hg : g < ns.length) (o : List Pc) (p : Bs) (k : Nat) : G ns o p (36 :: r) k = G ns (nm o p ++ [⟨[], g⟩]) [] ((36 :: r).drop n) (k + n) :=
  G_grp (by rw [tk_sign h, hs]; exact if_pos hg) o p k
theorem dg_step : ∀ (k : Nat) (r : Bs) (j : Nat), j ≤ dg k r → (j < dg k r ↔ j < k ∧ ∃ c, r[j]? = some c ∧ digB c = true)
  | 0, r, j, h => by
    have e : dg 0 r = 0 := rfl
    rw [e] at h ⊢
    exact ⟨fun h => absurd h (Nat.not_lt_zero _), fun h => absurd h.1 (Nat.not_lt_zero _)⟩
  | k + 1, [], j, h => by
    rw [dg_nil] at h ⊢
    refine ⟨fun h => absurd h (Nat.not_lt_zero _), fun ⟨_, c, hc, _⟩ => ?_⟩
    simp at hc
  | k + 1, c :: r, j, h => by
    by_cases hd : digB c = true
    · have e : dg (k + 1) (c :: r) = dg k r + 1 := by rw [dg, if_pos hd]
      rw [e] at h ⊢
      cases j with
      | zero => exact ⟨fun _ => ⟨by omega, c, rfl, hd⟩, fun _ => by omega⟩
      | succ j =>
        have := dg_step k r j (by omega)
        rw [List.getElem?_cons_succ]
        constructor
        · intro h
          obtain ⟨h1, h2⟩ := this.1 (by omega)
          exact ⟨by omega, h2⟩
        · intro ⟨h1, h2⟩
          have := this.2 ⟨by omega, h2⟩
          omega
    · have e : dg (k + 1) (c :: r) = 0 := by rw [dg, if_neg hd]
      rw [e] at h ⊢
      obtain rfl : j = 0 := by omega
      refine ⟨fun h => absurd h (Nat.lt_irrefl 0), fun ⟨_, c', hc, hd'⟩ => ?_⟩
      simp at hc
      subst hc
      exact absurd hd' hd
theorem dgAt_step (s : ByteArray) (m j : Nat) (h : j ≤ dg 4 (s.data.toList.drop m)) : j < dg 4 (s.data.toList.drop m) ↔ j < 4 ∧ dgAt s (m + j) = true := by
  rw [dg_step 4 _ j h, List.getElem?_drop]
  unfold dgAt
  constructor
  · rintro ⟨h1, c, hc, hd⟩
    exact ⟨h1, by rw [hc]; exact hd⟩
  · rintro ⟨h1, h2⟩
    refine ⟨h1, ?_⟩
    cases hc : s.data.toList[m + j]? with
    | none => rw [hc] at h2; cases h2
    | some c => rw [hc] at h2; exact ⟨c, rfl, h2⟩
theorem sign_dig {ns : List Bs} {s : ByteArray} {m : Nat} (h : dgAt s m = true) : 1 ≤ dg 4 (s.data.toList.drop m) ∧ signP ns (s.data.toList.drop m) = some (val10 ((s.data.toList.drop m).take (dg 4 (s.data.toList.drop m))), 1 + dg 4 (s.data.toList.drop m)) := by
  have h1 := (dgAt_step s m 0 (Nat.zero_le _)).2 ⟨by omega, h⟩
  refine ⟨h1, ?_⟩
  have hlt : m < s.size := by
    rcases Nat.lt_or_ge m s.size with h2 | h2
    · exact h2
    · rw [dgAt_ge s m h2] at h; cases h
  rw [dgAt_lt s m hlt] at h
  rw [byte_at s m hlt] at h1 ⊢
  have hd := (dig_iff s[m]).1 h
  have hne : s[m] ≠ 123 := fun e => by rw [e] at hd; exact absurd hd.2 (by decide)
  rw [signP, if_neg hne, if_neg (by omega)]
theorem sign_no {ns : List Bs} {s : ByteArray} {m : Nat} (h : dgAt s m = false) (hb : ∀ h : m < s.size, s[m] ≠ 123) : signP ns (s.data.toList.drop m) = none := by
  rcases Nat.lt_or_ge m s.size with hlt | hge
  · have h0 : ¬ 0 < dg 4 (s.data.toList.drop m) := fun e => by
      have := ((dgAt_step s m 0 (Nat.zero_le _)).1 e).2
      rw [Nat.add_zero, h] at this
      cases this
    rw [byte_at s m hlt] at h0 ⊢
    rw [signP, if_neg (hb hlt), if_pos (by omega)]
  · rw [List.drop_eq_nil_of_le (by rw [size_list]; exact hge)]
    rfl
theorem sign_brace {ns : List Bs} {s : ByteArray} {m : Nat} (hlt : m < s.size) (hb : s[m] = 123) : signP ns (s.data.toList.drop m) = match idxOf 125 (s.data.toList.drop (m + 1)) with
    | none => none
    | some k => (calledP ns ((s.data.toList.drop (m + 1)).take k)).map fun g => (g, k + 3) := by
  rw [byte_at s m hlt, signP, if_pos hb]
  cases idxOf 125 (s.data.toList.drop (m + 1)) <;> rfl
theorem take_step (s : ByteArray) (m j : Nat) (h : m + j < s.size) : (s.data.toList.drop m).take (j + 1) = (s.data.toList.drop m).take j ++ [s[m + j]] := by
  rw [List.take_succ_eq_append_getElem (by rw [List.length_drop, size_list]; omega)]
  congr 2
  rw [List.getElem_drop]
  rfl
theorem drop_sign (s : ByteArray) (k n : Nat) (h : 1 ≤ n) : (36 :: s.data.toList.drop (k + 1)).drop n = s.data.toList.drop (k + n) := by
  obtain ⟨m, rfl⟩ : ∃ m, n = m + 1 := ⟨n - 1, by omega⟩
  rw [List.drop_succ_cons, List.drop_drop]
  congr 1
  omega
theorem nm_pos {o : List Pc} {p : Bs} (h : p ≠ []) : nm o p = o ++ [⟨p, -1⟩] := if_neg h
theorem nm_nil {o : List Pc} : nm o [] = o := if_pos rfl
set_option maxRecDepth 100000 in
set_option maxHeartbeats 16000000 in
theorem rparse_any (s : ByteArray) (v : Value) (ns : List Bs) (w : World) (hs : s.size ≤ 1048576) (hN : Nl w v ns) (hn : ns.length ≤ 1048576) :
    Calls Tryd.prog 10 #[.string s, v] w fun e w' => ∃ v', e = .returned (.tuple #[v', .int .i64 (parseP ns s.data.toList).2.1, .int .i64 (parseP ns s.data.toList).2.2]) ∧ OwE w w' 57 v' (parseP ns s.data.toList).1 := by
  obtain ⟨ib, hib, hb0, hb1, hb2⟩ := info_parts info5
  obtain ⟨ip, hip, hp0, hp1, hp2⟩ := info_parts info57
  have HNL := hid hN
  obtain ⟨a, c, rfl, _⟩ := hN
  unfold parseP
  rw [size_list]
  by_cases hbig : 1024 < s.size
  · rw [if_pos hbig]
    dsimp only
    have hbI : (1024 : Int) < (s.size : Int) := by omega
    go_enter Tryd.func10, Tryd.ntmps10
    go_wp2
    refine bodyPost_ret (results_tmp3 rfl _ _ _) rfl ?_
    exact ⟨_, rfl, OwE.nil _ _⟩
  · rw [if_neg hbig]
    have hbI : ¬ (1024 : Int) < (s.size : Int) := by omega
    obtain ⟨X, hX⟩ : ∃ X, X = G ns [] [] s.data.toList 0 := ⟨_, rfl⟩
    rw [← hX]
    have HX := hid hX.symm
    change Calls Tryd.prog 10 _ w fun e w' => ∃ v', e = .returned (.tuple #[v', .int .i64 (psV X).2.1, .int .i64 (psV X).2.2]) ∧ OwE w w' 57 v' (psV X).1
    clear hX
    go_enter Tryd.func10, Tryd.ntmps10
    go_wp2_with fail
    go_loopg [7, 8, 9] s.size (fun gk v7 v8 v9 wr => ∃ (k : Nat) (o : List Pc) (p : Bs), k + gk = s.size ∧ v9 = .int .i64 (k : Nat) ∧ Two w wr v7 o v8 p ∧ Hid (G ns o p (s.data.toList.drop k) k = X) ∧ Hid (o.length + p.length ≤ k))
    case atStart => exact ⟨0, [], [], by omega, rfl, Two.start _, hid (by rw [List.drop_zero]; exact HX.out), hid (Nat.le_refl _)⟩
    case round =>
      obtain ⟨k, o, p, hk, rfl, htw, HG, HB⟩ := hrel
      have TW := hid htw
      obtain ⟨a7, c7, hv7⟩ := own_shape htw.oe.own
      obtain ⟨a8, c8, hv8⟩ := own_shape htw.ob.own
      subst hv7 hv8
      clear htw
      have hopl := HB.out
      have hpl2 : p.length ≤ 1048576 := by omega
      have hol2 : o.length ≤ 1048576 := by omega
      clear hopl
      by_cases hlt : k < s.size
      · have hltI : (k : Int) < (s.size : Int) := by omega
        rw [byte_at s k hlt] at HG
        obtain ⟨c0, hce⟩ : ∃ c0, c0 = s[k] := ⟨_, rfl⟩
        have hcg : s[k] = c0 := hce.symm
        rw [hcg] at HG
        clear hce
        by_cases hc : c0 = 36
        · subst hc
          have hcI : (s[k].toNat : Int) = 36 := by rw [hcg]; rfl
          have hcB : ((s[k].toNat : Int) != 36) = false := by rw [hcI]; rfl
          by_cases h36 : ∃ h : k + 1 < s.size, s[k + 1] = 36
          · obtain ⟨h1, h2⟩ := h36
            have h1I : (k : Int) + 1 < (s.size : Int) := by omega
            have h2I : (s[k + 1].toNat : Int) = 36 := by rw [h2]; rfl
            rw [byte_at s (k + 1) h1, h2, G_text (t := [36]) (n := 2) (by rw [tk1, if_pos rfl]; rfl)] at HG
            change Hid (G ns o (p ++ [36]) (s.data.toList.drop (k + 1 + 1)) (k + 2) = X) at HG
            clear h2
            go_wp2_with (at_builtin; refine wpList_append_own_at _ rfl _ _ 23 rfl 0 5 ib (.int .u8 0) 1 1 Tryd.underlying23 hib hb0 hb1 hb2 rfl (by decide) _ _ _ rfl (TW.out.ob.own.alloc _) ⟨wr.heap.size, 0, none⟩ 1 1 [.int .u8 36] rfl rfl (byte_new wr (.int .u8 36)) (by intro u hu; simp at hu; rw [hu]; rfl) (by unfold maxLen; omega) (by omega) (Nat.zero_le _) ?_)
            intro v4 w4 hown hgrow _ hat
            have TW4 := hid (TW.out.byte (c := 36) hown hgrow hat (by omega))
            clear hown hgrow hat
            go_wp2
            go_roundg (gk - 2)
            case measure => omega
            case rel => exact ⟨k + 2, _, _, by omega, by go_num, TW4.out, HG, hid (by have := HB.out; rw [List.length_append]; simp only [List.length_cons, List.length_nil]; omega)⟩
          · have HR0 := hid (show (s.data.toList.drop (k + 1))[0]? ≠ some 36 from fun e => h36 (by
              have hl : k + 1 < s.size := by
                rcases Nat.lt_or_ge (k + 1) s.size with h | h
                · exact h
                · rw [List.drop_eq_nil_of_le (by rw [size_list]; exact h)] at e; simp at e
              refine ⟨hl, ?_⟩
              rw [byte_at s (k + 1) hl] at e
              simpa using e))
            have KD := hid (fun i (hi : i ≤ 1048576) (w : World) => rdigit_any s i w hs hi)
            by_cases h1 : k + 1 < s.size
            · have h1I : (k : Int) + 1 < (s.size : Int) := by omega
              have h2 : s[k + 1] ≠ 36 := fun e => h36 ⟨h1, e⟩
              have h2I : ¬ (s[k + 1].toNat : Int) = 36 := fun e => h2 (UInt8.toNat_inj.1 (by
                have h36 : (36 : UInt8).toNat = 36 := rfl
                omega))
              have h2B : ((s[k + 1].toNat : Int) == 36) = false := beq_eq_false_iff_ne.2 h2I
              clear h36
              cases hdig : dgAt s (k + 1) with
              | true =>
                have HSD := hid (sign_dig (ns := ns) hdig)
                have hdl := (dg_le 4 (s.data.toList.drop (k + 1)))
                rw [List.length_drop, size_list] at hdl
                have HST := hid (fun j hj => dgAt_step s (k + 1) j hj)
                have HDD := hid (dg_dig 4 (s.data.toList.drop (k + 1)))
                obtain ⟨d, hde⟩ : ∃ d, d = dg 4 (s.data.toList.drop (k + 1)) := ⟨_, rfl⟩
                rw [← hde] at HSD hdl HST HDD
                have hd1 := HSD.out.1
                clear hde h2
                have K := hid (KD.out (k + 1) (by omega))
                rw [hdig] at K
                rw [show ((k + 1 : Nat) : Int) = (k : Int) + 1 from by omega] at K
                clear hdig
                go_wp2_with fail
                refine (K.out wr).mono ?_
                rintro e w1 ⟨rfl, rfl⟩
                clear K
                go_wp2_with fail
                go_loopg [10, 11] 4 (fun gk v10 v11 wq => ∃ j : Nat, j + gk = 4 ∧ j ≤ d ∧ v11 = .int .i64 ((k : Int) + 1 + (j : Int)) ∧ v10 = .int .i64 (val10 ((s.data.toList.drop (k + 1)).take j) : Nat) ∧ wr = wq)
                case atStart => exact ⟨0, by omega, by omega, by congr 1 <;> omega, rfl, rfl⟩
                case round =>
                  obtain ⟨j, hjg, hjd, rfl, rfl, rfl⟩ := hrel
                  have K := hid (KD.out (k + 1 + j) (by omega))
                  rw [show ((k + 1 + j : Nat) : Int) = (k : Int) + 1 + (j : Int) from by omega] at K
                  have hst := HST.out j hjd
                  have hvb := val_bound 4 ((s.data.toList.drop (k + 1)).take j) (by rw [List.length_take]; omega) (fun c hc => HDD.out c (List.take_subset_take_left _ hjd hc))
                  by_cases hj : j < d
                  · obtain ⟨hj4, hdj⟩ := hst.1 hj
                    have hjs : k + 1 + j < s.size := by omega
                    rw [hdj] at K
                    have hjI : (k : Int) + 1 + (j : Int) < (k : Int) + 5 := by omega
                    have hjsI : (k : Int) + 1 + (j : Int) < (s.size : Int) := by omega
                    have hj0 : (0 : Int) ≤ (k : Int) + 1 + (j : Int) := by omega
                    have hjN : ((k : Int) + 1 + (j : Int)).toNat = k + 1 + j := by omega
                    rw [dgAt_lt s _ hjs] at hdj
                    have hr := (dig_iff s[k + 1 + j]).1 hdj
                    have HNV := hid (show val10 ((s.data.toList.drop (k + 1)).take (j + 1)) = 10 * val10 ((s.data.toList.drop (k + 1)).take j) + (s[k + 1 + j].toNat - 48) from by rw [take_step s (k + 1) j hjs, val_snoc])
                    generalize val10 ((s.data.toList.drop (k + 1)).take j) = V at *
                    obtain ⟨x, hxe⟩ : ∃ x : Nat, x = s[k + 1 + j].toNat := ⟨_, rfl⟩
                    have hbg : s[k + 1 + j].toNat = x := hxe.symm
                    rw [hbg] at HNV hr
                    clear hxe hst hdj
                    go_wp2_with fail
                    refine (K.out wr).mono ?_
                    rintro e w1 ⟨rfl, rfl⟩
                    clear K
                    go_wp2
                    go_roundg (gk - 1)
                    case measure => omega
                    case rel => exact ⟨j + 1, by omega, by omega, by congr 1 <;> omega, by rw [HNV.out]; congr 1 <;> omega, rfl⟩
                  · obtain rfl : j = d := by omega
                    have HV := hid HSD.out.2
                    clear HSD
                    generalize val10 ((s.data.toList.drop (k + 1)).take j) = V at *
                    cases hdj : dgAt s (k + 1 + j) with
                    | false =>
                      rw [hdj] at K
                      clear hst hdj
                      go_wp2_with fail
                      refine (K.out wr).mono ?_
                      rintro e w1 ⟨rfl, rfl⟩
                      clear K
                      have HSG := hid (show signP ns (s.data.toList.drop (k + 1)) = some (V, 1 + j) from HV.out)
                      have hV0 : ¬ (V : Int) < 0 := by omega
                      by_cases hgl : V < ns.length
                      · have HGO := hid (show G ns (nm o p ++ [⟨[], (V : Int)⟩]) [] (s.data.toList.drop (k + (1 + j))) (k + (1 + j)) = X from by
                          rw [← HG.out, G_group HR0.out HSG.out hgl, drop_sign s k _ (by omega)])
                        have hglI : ¬ (ns.length : Int) ≤ (V : Int) := by omega
                        clear HSG
                        by_cases hp : p = []
                        · subst hp
                          rw [nm_nil] at HGO
                          have hp0I : ¬ (0 : Int) < ((([] : Bs).length : Nat) : Int) := by simp
                          go_wp2_with (at_builtin; refine wpList_append_own_at _ rfl _ _ 37 rfl 0 57 ip (.agg #[.string ⟨#[]⟩, .int .i64 0]) 2 24 Tryd.underlying37 hip hp0 hp1 hp2 rfl (by decide) _ _ _ rfl (TW.out.oe.own.alloc _) ⟨wr.heap.size, 0, none⟩ 1 1 [.string ⟨#[]⟩, .int .i64 (V : Int)] rfl rfl (row_new wr [.string ⟨#[]⟩, .int .i64 (V : Int)] 57) (by intro u hu; simp at hu; rcases hu with rfl | rfl <;> rfl) (by unfold maxLen; omega) (by omega) (Nat.zero_le _) ?_)
                          intro v5 w5 hown hgrow _ hat
                          have TW5 := hid (TW.out.piece (x := ⟨[], (V : Int)⟩) hown hgrow hat (by omega))
                          clear hown hgrow hat
                          obtain ⟨a5, c5, hv5⟩ := own_shape TW5.out.oe.own
                          subst hv5
                          go_wp2
                          go_roundg (s.size - (k + (1 + j)))
                          case measure => omega
                          case rel => exact ⟨k + (1 + j), _, _, by omega, by first | rfl | go_num | (congr 1 <;> omega), TW5.out, HGO, hid (by have := HB.out; simp only [List.length_append, List.length_cons, List.length_nil] at this ⊢; omega)⟩
                        · have hpl : 0 < p.length := List.length_pos_iff.2 hp
                          have hplI : (0 : Int) < (p.length : Int) := by omega
                          have hconv := TW.out.ob.conv
                          rw [nm_pos hp] at HGO
                          clear hp
                          go_wp2_with (at_builtin; refine wpList_append_own_at _ rfl _ _ 37 rfl 0 57 ip (.agg #[.string ⟨#[]⟩, .int .i64 0]) 2 24 Tryd.underlying37 hip hp0 hp1 hp2 rfl (by decide) _ _ _ rfl (TW.out.oe.own.alloc _) ⟨wr.heap.size, 0, none⟩ 1 1 [.string ⟨p.toArray⟩, .int .i64 (-1)] rfl rfl (row_new wr [.string ⟨p.toArray⟩, .int .i64 (-1)] 57) (by intro u hu; simp at hu; rcases hu with rfl | rfl <;> rfl) (by unfold maxLen; omega) (by omega) (Nat.zero_le _) ?_)
                          intro v5 w5 hown hgrow _ hat
                          have TW5 := hid (TW.out.piece (x := ⟨p, -1⟩) hown hgrow hat (by omega))
                          clear hown hgrow hat
                          obtain ⟨a5, c5, hv5⟩ := own_shape TW5.out.oe.own
                          subst hv5
                          have hol : (o ++ [(⟨p, -1⟩ : Pc)]).length = o.length + 1 := by simp
                          have TW6 := hid TW5.out.cut
                          have hol2 : (o ++ [(⟨p, -1⟩ : Pc)]).length ≤ 1048577 := by rw [hol]; omega
                          clear hol
                          have HO2 := hid (show (o ++ [(⟨p, -1⟩ : Pc)]).length = o.length + 1 from by simp)
                          generalize o ++ [(⟨p, -1⟩ : Pc)] = o2 at *
                          go_wp2_with (at_builtin; refine wpList_append_own_at _ rfl _ _ 37 rfl 0 57 ip (.agg #[.string ⟨#[]⟩, .int .i64 0]) 2 24 Tryd.underlying37 hip hp0 hp1 hp2 rfl (by decide) _ _ _ rfl (TW6.out.oe.own.alloc _) ⟨w5.heap.size, 0, none⟩ 1 1 [.string ⟨#[]⟩, .int .i64 (V : Int)] rfl rfl (row_new w5 [.string ⟨#[]⟩, .int .i64 (V : Int)] 57) (by intro u hu; simp at hu; rcases hu with rfl | rfl <;> rfl) (by unfold maxLen; omega) (by omega) (Nat.zero_le _) ?_)
                          intro v7 w7 hown hgrow _ hat
                          have TW7 := hid (TW6.out.piece (x := ⟨[], (V : Int)⟩) hown hgrow hat (by omega))
                          clear hown hgrow hat
                          obtain ⟨a7, c7, hv7⟩ := own_shape TW7.out.oe.own
                          subst hv7
                          go_wp2
                          go_roundg (s.size - (k + (1 + j)))
                          case measure => omega
                          case rel => exact ⟨k + (1 + j), _, _, by omega, by first | rfl | go_num | (congr 1 <;> omega), TW7.out, HGO, hid (by have := HB.out; have := HO2.out; simp only [List.length_append, List.length_cons, List.length_nil] at this ⊢; omega)⟩
                      · have HBAD := hid (show Sum.inr k = X from by rw [← HG.out, G_over HR0.out HSG.out hgl])
                        have hglI : (ns.length : Int) ≤ (V : Int) := by omega
                        clear HSG
                        go_wp2
                        refine bodyPost_ret (results_tmp3 rfl _ _ _) rfl ?_
                        exact ⟨_, by rw [← HBAD.out]; rfl, by rw [← HBAD.out]; exact (OwE.nil w 57).still TW.out.oe.touch⟩
                    | true =>
                      rw [hdj] at K
                      have hj4 : j = 4 := by
                        have := hst
                        rw [hdj] at this
                        by_cases h : j < 4
                        · exact absurd (this.2 ⟨h, rfl⟩) (Nat.lt_irrefl _)
                        · omega
                      have hjI : ¬ (k : Int) + 1 + (j : Int) < (k : Int) + 5 := by omega
                      clear hst hdj hj4
                      go_wp2_with fail
                      refine (K.out wr).mono ?_
                      rintro e w1 ⟨rfl, rfl⟩
                      clear K
                      have HSG := hid (show signP ns (s.data.toList.drop (k + 1)) = some (V, 1 + j) from HV.out)
                      have hV0 : ¬ (V : Int) < 0 := by omega
                      by_cases hgl : V < ns.length
                      · have HGO := hid (show G ns (nm o p ++ [⟨[], (V : Int)⟩]) [] (s.data.toList.drop (k + (1 + j))) (k + (1 + j)) = X from by
                          rw [← HG.out, G_group HR0.out HSG.out hgl, drop_sign s k _ (by omega)])
                        have hglI : ¬ (ns.length : Int) ≤ (V : Int) := by omega
                        clear HSG
                        by_cases hp : p = []
                        · subst hp
                          rw [nm_nil] at HGO
                          have hp0I : ¬ (0 : Int) < ((([] : Bs).length : Nat) : Int) := by simp
                          go_wp2_with (at_builtin; refine wpList_append_own_at _ rfl _ _ 37 rfl 0 57 ip (.agg #[.string ⟨#[]⟩, .int .i64 0]) 2 24 Tryd.underlying37 hip hp0 hp1 hp2 rfl (by decide) _ _ _ rfl (TW.out.oe.own.alloc _) ⟨wr.heap.size, 0, none⟩ 1 1 [.string ⟨#[]⟩, .int .i64 (V : Int)] rfl rfl (row_new wr [.string ⟨#[]⟩, .int .i64 (V : Int)] 57) (by intro u hu; simp at hu; rcases hu with rfl | rfl <;> rfl) (by unfold maxLen; omega) (by omega) (Nat.zero_le _) ?_)
                          intro v5 w5 hown hgrow _ hat
                          have TW5 := hid (TW.out.piece (x := ⟨[], (V : Int)⟩) hown hgrow hat (by omega))
                          clear hown hgrow hat
                          obtain ⟨a5, c5, hv5⟩ := own_shape TW5.out.oe.own
                          subst hv5
                          go_wp2
                          go_roundg (s.size - (k + (1 + j)))
                          case measure => omega
                          case rel => exact ⟨k + (1 + j), _, _, by omega, by first | rfl | go_num | (congr 1 <;> omega), TW5.out, HGO, hid (by have := HB.out; simp only [List.length_append, List.length_cons, List.length_nil] at this ⊢; omega)⟩
                        · have hpl : 0 < p.length := List.length_pos_iff.2 hp
                          have hplI : (0 : Int) < (p.length : Int) := by omega
                          have hconv := TW.out.ob.conv
                          rw [nm_pos hp] at HGO
                          clear hp
                          go_wp2_with (at_builtin; refine wpList_append_own_at _ rfl _ _ 37 rfl 0 57 ip (.agg #[.string ⟨#[]⟩, .int .i64 0]) 2 24 Tryd.underlying37 hip hp0 hp1 hp2 rfl (by decide) _ _ _ rfl (TW.out.oe.own.alloc _) ⟨wr.heap.size, 0, none⟩ 1 1 [.string ⟨p.toArray⟩, .int .i64 (-1)] rfl rfl (row_new wr [.string ⟨p.toArray⟩, .int .i64 (-1)] 57) (by intro u hu; simp at hu; rcases hu with rfl | rfl <;> rfl) (by unfold maxLen; omega) (by omega) (Nat.zero_le _) ?_)
                          intro v5 w5 hown hgrow _ hat
                          have TW5 := hid (TW.out.piece (x := ⟨p, -1⟩) hown hgrow hat (by omega))
                          clear hown hgrow hat
                          obtain ⟨a5, c5, hv5⟩ := own_shape TW5.out.oe.own
                          subst hv5
                          have hol : (o ++ [(⟨p, -1⟩ : Pc)]).length = o.length + 1 := by simp
                          have TW6 := hid TW5.out.cut
                          have hol2 : (o ++ [(⟨p, -1⟩ : Pc)]).length ≤ 1048577 := by rw [hol]; omega
                          clear hol
                          have HO2 := hid (show (o ++ [(⟨p, -1⟩ : Pc)]).length = o.length + 1 from by simp)
                          generalize o ++ [(⟨p, -1⟩ : Pc)] = o2 at *
                          go_wp2_with (at_builtin; refine wpList_append_own_at _ rfl _ _ 37 rfl 0 57 ip (.agg #[.string ⟨#[]⟩, .int .i64 0]) 2 24 Tryd.underlying37 hip hp0 hp1 hp2 rfl (by decide) _ _ _ rfl (TW6.out.oe.own.alloc _) ⟨w5.heap.size, 0, none⟩ 1 1 [.string ⟨#[]⟩, .int .i64 (V : Int)] rfl rfl (row_new w5 [.string ⟨#[]⟩, .int .i64 (V : Int)] 57) (by intro u hu; simp at hu; rcases hu with rfl | rfl <;> rfl) (by unfold maxLen; omega) (by omega) (Nat.zero_le _) ?_)
                          intro v7 w7 hown hgrow _ hat
                          have TW7 := hid (TW6.out.piece (x := ⟨[], (V : Int)⟩) hown hgrow hat (by omega))
                          clear hown hgrow hat
                          obtain ⟨a7, c7, hv7⟩ := own_shape TW7.out.oe.own
                          subst hv7
                          go_wp2
                          go_roundg (s.size - (k + (1 + j)))
                          case measure => omega
                          case rel => exact ⟨k + (1 + j), _, _, by omega, by first | rfl | go_num | (congr 1 <;> omega), TW7.out, HGO, hid (by have := HB.out; have := HO2.out; simp only [List.length_append, List.length_cons, List.length_nil] at this ⊢; omega)⟩
                      · have HBAD := hid (show Sum.inr k = X from by rw [← HG.out, G_over HR0.out HSG.out hgl])
                        have hglI : (ns.length : Int) ≤ (V : Int) := by omega
                        clear HSG
                        go_wp2
                        refine bodyPost_ret (results_tmp3 rfl _ _ _) rfl ?_
                        exact ⟨_, by rw [← HBAD.out]; rfl, by rw [← HBAD.out]; exact (OwE.nil w 57).still TW.out.oe.touch⟩
              | false =>
                have K := hid (KD.out (k + 1) (by omega))
                rw [hdig] at K
                rw [show ((k + 1 : Nat) : Int) = (k : Int) + 1 from by omega] at K
                by_cases hbr : s[k + 1] = 123
                · have hbI : (s[k + 1].toNat : Int) = 123 := by rw [hbr]; rfl
                  have hsb := sign_brace (ns := ns) h1 hbr
                  have HSB := hid hsb
                  clear hsb hbr hdig h2
                  go_wp2_with fail
                  refine (K.out wr).mono ?_
                  rintro e w1 ⟨rfl, rfl⟩
                  clear K
                  go_wp2_with fail
                  go_loopg [12] (s.size - (k + 2)) (fun gk v12 wq => ∃ j : Nat, j + gk = s.size - (k + 2) ∧ v12 = .int .i64 ((k : Int) + 2 + (j : Int)) ∧ Hid (idxOf 125 (s.data.toList.drop (k + 1 + 1)) = (idxOf 125 (s.data.toList.drop (k + 2 + j))).map (· + j)) ∧ wr = wq)
                  case atStart => exact ⟨0, by omega, by congr 1 <;> omega, hid (by simp), rfl⟩
                  case round =>
                    obtain ⟨j, hjg, rfl, HJ, rfl⟩ := hrel
                    by_cases hj : k + 2 + j < s.size
                    · have hjsI : (k : Int) + 2 + (j : Int) < (s.size : Int) := by omega
                      have hj0 : (0 : Int) ≤ (k : Int) + 2 + (j : Int) := by omega
                      have hjN : ((k : Int) + 2 + (j : Int)).toNat = k + 2 + j := by omega
                      rw [byte_at s (k + 2 + j) hj, idxOf] at HJ
                      by_cases h125 : s[k + 2 + j] = 125
                      · rw [if_pos h125] at HJ
                        have hxI : (s[k + 2 + j].toNat : Int) = 125 := by rw [h125]; rfl
                        have hxB : ((s[k + 2 + j].toNat : Int) != 125) = false := by rw [hxI]; rfl
                        have HSJ := hid (show signP ns (s.data.toList.drop (k + 1)) = (calledP ns ((s.data.toList.drop (k + 1 + 1)).take j)).map fun g => (g, j + 3) from by rw [HSB.out, HJ.out]; simp)
                        clear h125
                        have hel : (s.extract (k + 2) (k + 2 + j)).data.toList = (s.data.toList.drop (k + 1 + 1)).take j := by
                          rw [ext_list]
                          congr 1
                          omega
                        have KG := hid (fun w' (t : Touch (fun _ => False) w w') => rgroup_any (s.extract (k + 2) (k + 2 + j)) _ ns w' (by rw [ByteArray.size_extract]; omega) (HNL.out.new t) hn)
                        rw [hel] at KG
                        have KG2 := hid (KG.out wr TW.out.oe.touch)
                        have hs0 : (0 : Int) ≤ (k : Int) + 1 + 1 := by omega
                        have hs1 : (k : Int) + 1 + 1 ≤ (k : Int) + 2 + (j : Int) := by omega
                        have hs2 : (k : Int) + 2 + (j : Int) ≤ (s.size : Int) := by omega
                        have hsN : ((k : Int) + 1 + 1).toNat = k + 2 := by omega
                        clear KG hel
                        cases hcp : calledP ns ((s.data.toList.drop (k + 1 + 1)).take j) with
                        | none =>
                          rw [hcp] at KG2 HSJ
                          have HBAD := hid (show Sum.inr k = X from by rw [← HG.out, G_none HR0.out HSJ.out])
                          clear hcp
                          unfold idxV at KG2
                          dsimp only at KG2
                          go_wp2_with fail
                          refine KG2.out.mono ?_
                          rintro e w1 ⟨rfl, rfl⟩
                          clear KG2
                          go_wp2
                          refine bodyPost_ret (results_tmp3 rfl _ _ _) rfl ?_
                          exact ⟨_, by rw [← HBAD.out]; rfl, by rw [← HBAD.out]; exact (OwE.nil w 57).still TW.out.oe.touch⟩
                        | some g =>
                          rw [hcp] at KG2 HSJ
                          clear hcp
                          unfold idxV at KG2
                          dsimp only at KG2
                          have hj3 : k + (j + 3) ≤ s.size := by omega
                          go_wp2_with fail
                          refine KG2.out.mono ?_
                          rintro e w1 ⟨rfl, rfl⟩
                          clear KG2
                          have HSG := hid (show signP ns (s.data.toList.drop (k + 1)) = some (g, j + 3) from HSJ.out)
                          have hV0 : ¬ (g : Int) < 0 := by omega
                          by_cases hgl : g < ns.length
                          · have HGO := hid (show G ns (nm o p ++ [⟨[], (g : Int)⟩]) [] (s.data.toList.drop (k + (j + 3))) (k + (j + 3)) = X from by
                              rw [← HG.out, G_group HR0.out HSG.out hgl, drop_sign s k _ (by omega)])
                            have hglI : ¬ (ns.length : Int) ≤ (g : Int) := by omega
                            clear HSG
                            by_cases hp : p = []
                            · subst hp
                              rw [nm_nil] at HGO
                              have hp0I : ¬ (0 : Int) < ((([] : Bs).length : Nat) : Int) := by simp
                              go_wp2_with (at_builtin; refine wpList_append_own_at _ rfl _ _ 37 rfl 0 57 ip (.agg #[.string ⟨#[]⟩, .int .i64 0]) 2 24 Tryd.underlying37 hip hp0 hp1 hp2 rfl (by decide) _ _ _ rfl (TW.out.oe.own.alloc _) ⟨wr.heap.size, 0, none⟩ 1 1 [.string ⟨#[]⟩, .int .i64 (g : Int)] rfl rfl (row_new wr [.string ⟨#[]⟩, .int .i64 (g : Int)] 57) (by intro u hu; simp at hu; rcases hu with rfl | rfl <;> rfl) (by unfold maxLen; omega) (by omega) (Nat.zero_le _) ?_)
                              intro v5 w5 hown hgrow _ hat
                              have TW5 := hid (TW.out.piece (x := ⟨[], (g : Int)⟩) hown hgrow hat (by omega))
                              clear hown hgrow hat
                              obtain ⟨a5, c5, hv5⟩ := own_shape TW5.out.oe.own
                              subst hv5
                              go_wp2
                              go_roundg (s.size - (k + (j + 3)))
                              case measure => omega
                              case rel => exact ⟨k + (j + 3), _, _, by omega, by first | rfl | go_num | (congr 1 <;> omega), TW5.out, HGO, hid (by have := HB.out; simp only [List.length_append, List.length_cons, List.length_nil] at this ⊢; omega)⟩
                            · have hpl : 0 < p.length := List.length_pos_iff.2 hp
                              have hplI : (0 : Int) < (p.length : Int) := by omega
                              have hconv := TW.out.ob.conv
                              rw [nm_pos hp] at HGO
                              clear hp
                              go_wp2_with (at_builtin; refine wpList_append_own_at _ rfl _ _ 37 rfl 0 57 ip (.agg #[.string ⟨#[]⟩, .int .i64 0]) 2 24 Tryd.underlying37 hip hp0 hp1 hp2 rfl (by decide) _ _ _ rfl (TW.out.oe.own.alloc _) ⟨wr.heap.size, 0, none⟩ 1 1 [.string ⟨p.toArray⟩, .int .i64 (-1)] rfl rfl (row_new wr [.string ⟨p.toArray⟩, .int .i64 (-1)] 57) (by intro u hu; simp at hu; rcases hu with rfl | rfl <;> rfl) (by unfold maxLen; omega) (by omega) (Nat.zero_le _) ?_)
                              intro v5 w5 hown hgrow _ hat
                              have TW5 := hid (TW.out.piece (x := ⟨p, -1⟩) hown hgrow hat (by omega))
                              clear hown hgrow hat
                              obtain ⟨a5, c5, hv5⟩ := own_shape TW5.out.oe.own
                              subst hv5
                              have hol : (o ++ [(⟨p, -1⟩ : Pc)]).length = o.length + 1 := by simp
                              have TW6 := hid TW5.out.cut
                              have hol2 : (o ++ [(⟨p, -1⟩ : Pc)]).length ≤ 1048577 := by rw [hol]; omega
                              clear hol
                              have HO2 := hid (show (o ++ [(⟨p, -1⟩ : Pc)]).length = o.length + 1 from by simp)
                              generalize o ++ [(⟨p, -1⟩ : Pc)] = o2 at *
                              go_wp2_with (at_builtin; refine wpList_append_own_at _ rfl _ _ 37 rfl 0 57 ip (.agg #[.string ⟨#[]⟩, .int .i64 0]) 2 24 Tryd.underlying37 hip hp0 hp1 hp2 rfl (by decide) _ _ _ rfl (TW6.out.oe.own.alloc _) ⟨w5.heap.size, 0, none⟩ 1 1 [.string ⟨#[]⟩, .int .i64 (g : Int)] rfl rfl (row_new w5 [.string ⟨#[]⟩, .int .i64 (g : Int)] 57) (by intro u hu; simp at hu; rcases hu with rfl | rfl <;> rfl) (by unfold maxLen; omega) (by omega) (Nat.zero_le _) ?_)
                              intro v7 w7 hown hgrow _ hat
                              have TW7 := hid (TW6.out.piece (x := ⟨[], (g : Int)⟩) hown hgrow hat (by omega))
                              clear hown hgrow hat
                              obtain ⟨a7, c7, hv7⟩ := own_shape TW7.out.oe.own
                              subst hv7
                              go_wp2
                              go_roundg (s.size - (k + (j + 3)))
                              case measure => omega
                              case rel => exact ⟨k + (j + 3), _, _, by omega, by first | rfl | go_num | (congr 1 <;> omega), TW7.out, HGO, hid (by have := HB.out; have := HO2.out; simp only [List.length_append, List.length_cons, List.length_nil] at this ⊢; omega)⟩
                          · have HBAD := hid (show Sum.inr k = X from by rw [← HG.out, G_over HR0.out HSG.out hgl])
                            have hglI : (ns.length : Int) ≤ (g : Int) := by omega
                            clear HSG
                            go_wp2
                            refine bodyPost_ret (results_tmp3 rfl _ _ _) rfl ?_
                            exact ⟨_, by rw [← HBAD.out]; rfl, by rw [← HBAD.out]; exact (OwE.nil w 57).still TW.out.oe.touch⟩
                      · rw [if_neg h125] at HJ
                        have hxI : ¬ (s[k + 2 + j].toNat : Int) = 125 := fun e => h125 (UInt8.toNat_inj.1 (by
                          have h36 : (125 : UInt8).toNat = 125 := rfl
                          omega))
                        have hxB : ((s[k + 2 + j].toNat : Int) != 125) = true := by simpa using hxI
                        clear h125
                        go_wp2
                        go_roundg (gk - 1)
                        case measure => omega
                        case rel => exact ⟨j + 1, by omega, by congr 1 <;> omega, hid (by
                          rw [HJ.out, Option.map_map]
                          congr 1
                          funext k
                          simp only [Function.comp]
                          omega), rfl⟩
                    · have hjsI : ¬ (k : Int) + 2 + (j : Int) < (s.size : Int) := by omega
                      have e0 : s.data.toList.drop (k + 2 + j) = [] := List.drop_eq_nil_of_le (by rw [size_list]; omega)
                      rw [e0] at HJ
                      clear e0
                      have HBAD := hid (show Sum.inr k = X from by rw [← HG.out, G_none HR0.out (by rw [HSB.out, HJ.out]; rfl)])
                      go_wp2
                      refine bodyPost_ret (results_tmp3 rfl _ _ _) rfl ?_
                      exact ⟨_, by rw [← HBAD.out]; rfl, by rw [← HBAD.out]; exact (OwE.nil w 57).still TW.out.oe.touch⟩
                · have hbI : ¬ (s[k + 1].toNat : Int) = 123 := fun e => hbr (UInt8.toNat_inj.1 (by
                    have h36 : (123 : UInt8).toNat = 123 := rfl
                    omega))
                  have hbB : ((s[k + 1].toNat : Int) == 123) = false := beq_eq_false_iff_ne.2 hbI
                  have HBAD := hid (show Sum.inr k = X from by rw [← HG.out, G_none HR0.out (sign_no hdig (fun _ => hbr))])
                  clear hbr hdig h2
                  go_wp2_with fail
                  refine (K.out wr).mono ?_
                  rintro e w1 ⟨rfl, rfl⟩
                  clear K
                  go_wp2
                  refine bodyPost_ret (results_tmp3 rfl _ _ _) rfl ?_
                  exact ⟨_, by rw [← HBAD.out]; rfl, by rw [← HBAD.out]; exact (OwE.nil w 57).still TW.out.oe.touch⟩
            · have h1I : ¬ (k : Int) + 1 < (s.size : Int) := by omega
              have hdig := dgAt_ge s (k + 1) (by omega)
              have K := hid (KD.out (k + 1) (by omega))
              rw [hdig] at K
              rw [show ((k + 1 : Nat) : Int) = (k : Int) + 1 from by omega] at K
              have HBAD := hid (show Sum.inr k = X from by rw [← HG.out, G_none HR0.out (sign_no hdig (fun h => absurd h h1))])
              clear hdig h36
              go_wp2_with fail
              refine (K.out wr).mono ?_
              rintro e w1 ⟨rfl, rfl⟩
              clear K
              go_wp2
              refine bodyPost_ret (results_tmp3 rfl _ _ _) rfl ?_
              exact ⟨_, by rw [← HBAD.out]; rfl, by rw [← HBAD.out]; exact (OwE.nil w 57).still TW.out.oe.touch⟩
        · have hcI : ¬ (c0.toNat : Int) = 36 := fun e => hc (UInt8.toNat_inj.1 (by
            have h36 : (36 : UInt8).toNat = 36 := rfl
            omega))
          have hcB : ((c0.toNat : Int) != 36) = true := by simpa using hcI
          rw [G_text (t := [c0]) (n := 1) (by rw [tk1, if_neg hc])] at HG
          change Hid (G ns o (p ++ [c0]) (s.data.toList.drop (k + 1)) (k + 1) = X) at HG
          clear hc
          go_wp2_with (at_builtin; refine wpList_append_own_at _ rfl _ _ 23 rfl 0 5 ib (.int .u8 0) 1 1 Tryd.underlying23 hib hb0 hb1 hb2 rfl (by decide) _ _ _ rfl (TW.out.ob.own.alloc _) ⟨wr.heap.size, 0, none⟩ 1 1 [.int .u8 (c0.toNat : Int)] rfl rfl (byte_new wr (.int .u8 (c0.toNat : Int))) (by intro u hu; simp at hu; rw [hu]; rfl) (by unfold maxLen; omega) (by omega) (Nat.zero_le _) ?_)
          intro v4 w4 hown hgrow _ hat
          have TW4 := hid (TW.out.byte (c := c0) hown hgrow hat (by omega))
          clear hown hgrow hat
          go_wp2
          go_roundg (gk - 1)
          case measure => omega
          case rel => exact ⟨k + 1, _, _, by omega, by go_num, TW4.out, HG, hid (by have := HB.out; rw [List.length_append]; simp only [List.length_cons, List.length_nil]; omega)⟩
      · obtain rfl : k = s.size := by omega
        rw [drop_all, G_nil] at HG
        by_cases hp : p = []
        · subst hp
          rw [nm_nil] at HG
          have hp0I : ¬ (0 : Int) < ((([] : Bs).length : Nat) : Int) := by simp
          go_wp2
          refine bodyPost_ret (results_tmp3 rfl _ _ _) rfl ?_
          exact ⟨_, by rw [← HG.out]; rfl, by rw [← HG.out]; exact TW.out.oe⟩
        · have hpl : 0 < p.length := List.length_pos_iff.2 hp
          have hplI : (0 : Int) < (p.length : Int) := by omega
          have hconv := TW.out.ob.conv
          rw [nm_pos hp] at HG
          clear hp
          go_wp2_with (at_builtin; refine wpList_append_own_at _ rfl _ _ 37 rfl 0 57 ip (.agg #[.string ⟨#[]⟩, .int .i64 0]) 2 24 Tryd.underlying37 hip hp0 hp1 hp2 rfl (by decide) _ _ _ rfl (TW.out.oe.own.alloc _) ⟨wr.heap.size, 0, none⟩ 1 1 [.string ⟨p.toArray⟩, .int .i64 (-1)] rfl rfl (row_new wr [.string ⟨p.toArray⟩, .int .i64 (-1)] 57) (by intro u hu; simp at hu; rcases hu with rfl | rfl <;> rfl) (by unfold maxLen; omega) (by omega) (Nat.zero_le _) ?_)
          intro v5 w5 hown hgrow _ hat
          have TW5 := hid (TW.out.piece (x := ⟨p, -1⟩) hown hgrow hat (by omega))
          clear hown hgrow hat
          obtain ⟨a5, c5, hv5⟩ := own_shape TW5.out.oe.own
          subst hv5
          go_wp2
          refine bodyPost_ret (results_tmp3 rfl _ _ _) rfl ?_
          exact ⟨_, by rw [← HG.out]; rfl, by rw [← HG.out]; exact TW5.out.oe⟩
end Go.Proofs.YtnohikoeaepfpaaDoor
