/- ArgsPacks' walk; conditions: the texts fit into memory, the library's variables lie there. -/
import Derived.Test.YtmeekjfnmdbnpaaDoorRp
import Derived.Test.YtmeekjfnmdbnpaaDoorRu
namespace Go.Proofs.YtmeekjfnmdbnpaaDoor
open Go.RowKit
open Go.Lib

theorem run_copy_none (w : World) (ad : Addr) (ty t e : TypeId) (i : TypeInfo) (ht : Tryd.prog.underlying t = some (.slice e)) (hin : Tryd.prog.info? e = some i) :
    (Builtin.append_ #[t, t] ty #[.slice (some ad) 0 0, .slice none 0 0]).run Tryd.prog w = .ok (.slice (some ad) 0 0) w := by
  simp [Builtin.append_, run_underlying ht, sizeOf, typeInfo, hin, Builtin.lenOf, Builtin.firstCells, storeCells]

theorem wpList_copy (w0 : World) {ops : Array Oper} {rest : List Oper} {o : Oper} {a : Act} {Q : Exit → Act → World → Prop} (hgd : o.guard = none) (sl x : Operand) (t e : TypeId) (i : TypeInfo) (z : Value) (bytes : Nat)
    (ho : o.op = .call { callee := .builtin .append, args := #[sl, x], argTypes := #[t, t] }) (ht : Tryd.prog.underlying t = some (.slice e)) (hin : Tryd.prog.info? e = some i) (hz : i.zero = some z) (hz1 : i.size = 1) (hby : i.bytes = bytes) (hzs : z.cells.size = 1)
    (hs : a.eval sl = .slice (some ⟨w0.heap.size, 0, none⟩) 0 0) (A : Option Addr) (len cap : Nat) (hx : a.eval x = .slice A len cap) (vals : List Value) (hlen : vals.length = len)
    (hA : (A = none ∧ cap = 0 ∧ len = 0) ∨ ∃ ad, A = some ad ∧ ∀ j u, vals[j]? = some u → w0.cell? (ad.add j) = some u) (hone : ∀ u ∈ vals, u.oneCell' = true) (hl : len ≤ maxLen) (hb : len * bytes ≤ 140737488355328)
    (h : ∀ v' w', w'.ownsRow w0.heap.size e 1 v' len vals → Touch (fun _ => False) w0 w' → (∃ g c, v' = .slice (some ⟨g, 0, none⟩) len c) → wpList Tryd.prog ops Q rest (a.put o.dst v') w') : wpList Tryd.prog ops Q (o :: rest) a (w0.alloc (.cells #[] e)) := by
  have hown : (w0.alloc (.cells #[] e)).ownsRow w0.heap.size e 1 (.slice (some ⟨w0.heap.size, 0, none⟩) 0 0) 0 [] := World.ownsRow_made w0 #[] 0 (Nat.le_refl _) (by unfold maxLen; omega) rfl
  rcases hA with ⟨rfl, rfl, rfl⟩ | ⟨ad, rfl, hc⟩
  · have hv : vals = [] := List.eq_nil_of_length_eq_zero hlen
    subst hv
    refine wpList_plain hgd fun K hK => ?_
    unfold Oper.wp execOp
    simp only [ho, resolve, invoke, builtin, Sem.run_bind, Sem.run_pure, Result.andThen_ok, List.map_toArray, List.map_cons, List.map_nil, hs, hx, run_copy_none _ _ _ t e i ht hin]
    exact hK _ _ (h _ _ hown ((Touch.refl _ w0).alloc _) ⟨_, _, rfl⟩)
  · refine wpList_append_own _ hgd sl x t ho w0.heap.size e i z 1 bytes ht hin hz hz1 hby hzs (by decide) _ 0 [] hs hown ad len cap vals hx (by rw [hlen, Nat.mul_one]) (fun j u hj => ?_) hone (by omega) (by rw [Nat.zero_add]; exact hb) (by simp) (fun v' w' h1 h2 h3 => ?_)
    · have := hc j u hj
      rw [World.cell?_of_block (w := w0) (Below.heap_alloc _ _ _ (World.block_lt_of_cell? w0 _ this))]
      exact this
    · rw [Nat.zero_add, List.nil_append] at h1
      refine h v' w' h1 (((Touch.refl (fun _ => False) w0).alloc _).grown h2 (fun k e h => by simp [Value.ownBlock] at e; omega)) ?_
      rcases h1.2 with ⟨rfl, _⟩ | ⟨g, cap', cur, rfl, _⟩
      · have := h3.mp rfl
        simp at this
      · exact ⟨g, cap', rfl⟩
/-- The texts that are packed. -/
def pre : List Bs → List Bs
  | [] => []
  | t :: l => if 9999999 < t.length then [] else t :: pre l
theorem packL_pre : ∀ l : List Bs, packL l = pks (pre l)
  | [] => rfl
  | t :: l => by
    rw [packL, pre]
    split
    · rfl
    · rw [packL_pre l]
      simp [pks]
theorem pre_all : ∀ l : List Bs, ∀ t ∈ pre l, t.length ≤ 9999999
  | [] => by simp [pre]
  | t :: l => by
    rw [pre]
    split
    · simp
    · intro x hx
      rcases List.mem_cons.1 hx with rfl | hx
      · omega
      · exact pre_all l x hx
theorem pre_get : ∀ (l : List Bs) (i : Nat) (h : i < (pre l).length), ∃ h2 : i < l.length, (pre l)[i] = l[i]
  | [], i, h => by simp [pre] at h
  | t :: l, i, h => by
    by_cases hc : 9999999 < t.length
    · have e : pre (t :: l) = [] := by rw [pre, if_pos hc]
      rw [e] at h
      simp at h
    · have e : pre (t :: l) = t :: pre l := by rw [pre, if_neg hc]
      cases i with
      | zero =>
        refine ⟨by simp, ?_⟩
        simp [e]
      | succ i =>
        rw [e] at h
        obtain ⟨h2, h3⟩ := pre_get l i (by simpa using h)
        refine ⟨by simpa using h2, ?_⟩
        simp only [e, List.getElem_cons_succ]
        exact h3
theorem pre_end : ∀ l : List Bs, (pre l).length = l.length ∨ ∃ h : (pre l).length < l.length, 9999999 < (l[(pre l).length]).length
  | [] => .inl rfl
  | t :: l => by
    by_cases hc : 9999999 < t.length
    · have e : pre (t :: l) = [] := by rw [pre, if_pos hc]
      refine .inr ⟨by rw [e]; simp, ?_⟩
      simp only [e]
      exact hc
    · have e : pre (t :: l) = t :: pre l := by rw [pre, if_neg hc]
      rcases pre_end l with h | ⟨h, h2⟩
      · left
        rw [e]
        simp [h]
      · refine .inr ⟨by rw [e]; simpa using h, ?_⟩
        simp only [e, List.length_cons, List.getElem_cons_succ]
        exact h2
theorem un_pack (l : List Bs) : un (packL l) = .ok (pre l) := by
  rw [packL_pre]
  exact un_pks _ (pre_all l)
theorem wt_pack : ∀ l : List Bs, (packL l).length ≤ wt l
  | [] => Nat.zero_le _
  | t :: l => by
    have := wt_pack l
    rw [packL, wt]
    split
    · simp
    · have h := pk_short t (by omega)
      rw [List.length_append]
      omega
theorem own_nlB {w : World} {B : Nat} {v : Value} {ts : List Bs} (h : w.ownsRow B 9 1 v ts.length (ts.map sv)) : Nl w v ts := by
  rcases h.2 with ⟨rfl, h0⟩ | ⟨g, cap, cur, rfl, hg, hh, rest⟩
  · exact ⟨none, 0, by rw [h0], .inl (List.eq_nil_of_length_eq_zero h0)⟩
  · refine ⟨_, cap, rfl, .inr ⟨g, 0, rfl, lt_of_block hh, fun i hi => ?_⟩⟩
    have h1 := h.cells (g := g) rfl i (sv ts[i]) (by rw [List.getElem?_map, List.getElem?_eq_getElem hi]; rfl)
    rw [add_g] at h1
    rw [Nat.zero_add]
    exact h1
theorem nl_cells {w : World} {A : Option Addr} {cap : Nat} {ns : List Bs} (h : Nl w (.slice A ns.length cap) ns) (hnil : A = none → cap = 0 ∧ ns = []) : (A = none ∧ cap = 0 ∧ ns.length = 0) ∨ ∃ ad, A = some ad ∧ ∀ (j : Nat) u, (ns.map sv)[j]? = some u → w.cell? (ad.add j) = some u := by
  cases hA : A with
  | none =>
    obtain ⟨h1, h2⟩ := hnil hA
    exact .inl ⟨rfl, h1, by rw [h2]; rfl⟩
  | some ad =>
    refine .inr ⟨ad, rfl, ?_⟩
    intro j u hj
    obtain ⟨a, c, he, h⟩ := h
    rcases h with h | ⟨b, o, rfl, hb, hc⟩
    · subst h
      simp at hj
    · rw [hA] at he
      simp only [Value.slice.injEq, Option.some.injEq] at he
      obtain ⟨rfl, _, _⟩ := he
      have hj2 : j < ns.length := by
        have := (List.getElem?_eq_some_iff.1 hj).1
        simpa using this
      rw [List.getElem?_map, List.getElem?_eq_getElem hj2] at hj
      have e : (⟨b, o, none⟩ : Addr).add j = ⟨b, o + j, none⟩ := by
        unfold Addr.add
        split
        · rename_i h0
          rw [h0, Nat.add_zero]
        · rfl
      rw [e, hc j hj2]
      exact hj
theorem nl_at {w : World} {A : Option Addr} {n cap : Nat} {ns : List Bs} (h : Nl w (.slice A n cap) ns) (i : Nat) (hi : i < ns.length) : ∃ b o, A = some ⟨b, o, none⟩ ∧ w.cell? ⟨b, o + i, none⟩ = some (sv ns[i]) := by
  obtain ⟨a, c, he, h⟩ := h
  simp only [Value.slice.injEq] at he
  obtain ⟨rfl, _, _⟩ := he
  rcases h with h | ⟨b, o, rfl, hb, hc⟩
  · subst h
    simp at hi
  · exact ⟨b, o, rfl, hc i hi⟩
theorem pks_len : ∀ l : List Bs, l.length ≤ (pks l).length
  | [] => Nat.zero_le _
  | t :: l => by
    have h1 := pks_len l
    have h2 := pk_pos t
    have e : pks (t :: l) = pk t ++ pks l := by simp [pks]
    rw [e, List.length_append, List.length_cons]
    omega
theorem ok_len (s : Bs) : (okL (un s)).length ≤ s.length := by
  cases h : un s with
  | error p => exact Nat.zero_le _
  | ok l =>
    obtain ⟨h1, _⟩ := un_ok _ _ _ _ h
    rw [h1]
    exact pks_len l
theorem ones_sv (ns : List Bs) : ∀ u ∈ ns.map sv, u.oneCell' = true := by
  intro u hu
  obtain ⟨t, _, rfl⟩ := List.mem_map.1 hu
  rfl
set_option maxRecDepth 100000 in
set_option maxHeartbeats 8000000 in
theorem argsPacks_walk (A : Option Addr) (cap : Nat) (ns : List Bs) (s : ByteArray) (w : World) (hN : Nl w (.slice A ns.length cap) ns) (hnil : A = none → cap = 0 ∧ ns = []) (hw : wt ns ≤ 1099511627776) (hs : s.size ≤ 1099511627776) (hx : Sx w) :
    Calls Tryd.prog 4 #[.slice A ns.length cap, .string s] w fun e w' => e = .returned (.bool true) ∧ Below w.heap.size w w' := by
  obtain ⟨i0, hi, hz0, hz1, hz2⟩ := info_parts info9
  have KS := hid (speaks_yes w hx)
  have HX0 := hid hx
  have HN0 := hid hN
  have hnl : ns.length ≤ 1099511627776 := by
    have : ∀ ns : List Bs, ns.length ≤ wt ns := by
      intro ns
      induction ns with
      | nil => exact Nat.zero_le _
      | cons t l ih => rw [wt, List.length_cons]; omega
    have := this ns
    omega
  go_enter Tryd.func4, Tryd.ntmps4
  go_wp2_with fail
  refine KS.out.mono ?_
  rintro e w1 ⟨rfl, t1⟩
  have T1 := hid t1
  have HC := hid (nl_cells (hN.new t1) hnil)
  clear t1 hx KS hN hnil
  go_wp2_with (at_builtin; refine wpList_copy w1 rfl _ _ 24 9 i0 (.string ⟨#[]⟩) 16 rfl Tryd.underlying24 hi hz0 hz1 hz2 rfl rfl A ns.length cap rfl (ns.map sv) (by simp) HC.out (ones_sv ns) (by unfold maxLen; omega) (by omega) ?_)
  intro v2 w2 hown t2 g2 c2 hv2
  subst hv2
  have T2 := hid (T1.out.trans t2 (fun _ _ e => e))
  have N2 := hid (own_nlB hown)
  clear hown t2 T1 HC
  go_wp2_with fail
  obtain ⟨P, hP, hPs, hPd⟩ := name_ba (packL ns)
  have K3 := hid (pack_any _ ns w2 N2.out (HX0.out.new T2.out) (by omega))
  rw [hP] at K3
  refine K3.out.mono ?_
  rintro e w3 ⟨rfl, t3⟩
  have T3 := hid (T2.out.trans t3 (fun _ _ e => e))
  clear t3 K3 N2 T2
  have K4 := hid (rpack_any _ ns w3 (HN0.out.new T3.out) (by omega))
  rw [hP] at K4
  have hPb := wt_pack ns
  rw [← hPs] at hPb
  have HUP := hid (un_pack ns)
  rw [← hPd] at HUP
  clear hP hPs hPd
  go_wp2_with fail
  refine K4.out.mono ?_
  rintro e w4 ⟨rfl, t4⟩
  have T4 := hid (T3.out.trans t4 (fun _ _ e => e))
  clear t4 K4 T3
  have K5 := hid (unpack_any P w4 (by omega) (HX0.out.new T4.out))
  rw [HUP.out] at K5
  unfold faE faA okL at K5
  dsimp only at K5
  go_wp2_with fail
  refine K5.out.mono ?_
  rintro e w5 ⟨v5, rfl, ow5⟩
  have N5 := hid (ow5.nl.new ((Touch.refl _ _).alloc (.cells #[.int .i64 0, .int .i64 0] 27)))
  obtain ⟨a5, c5, hv5⟩ := own_shape ow5.own
  subst hv5
  have T5 := hid ((T4.out.trans ow5.touch (fun _ _ e => e)).alloc (.cells #[.int .i64 0, .int .i64 0] 27))
  have F5 := hid (two_new (w := w5) (.int .i64 0) (.int .i64 0) 27)
  clear ow5 K5 T4 HUP
  go_upto_region 7 with fail
  generalize w5.alloc (.cells #[.int .i64 0, .int .i64 0] 27) = w6 at *
  generalize w5.heap.size = q5 at *
  have K6 := hid (unpack_any s w6 (by omega) (HX0.out.new T5.out))
  have K7 := hid (fun w7 => runpack_any s w7 (by omega))
  obtain ⟨E, hE⟩ : ∃ E, E = faE (un s.data.toList) := ⟨_, rfl⟩
  obtain ⟨At, hAt⟩ : ∃ At, At = faA (un s.data.toList) := ⟨_, rfl⟩
  obtain ⟨ls, hls⟩ : ∃ ls, ls = okL (un s.data.toList) := ⟨_, rfl⟩
  rw [← hE, ← hAt, ← hls] at K6 K7
  have hlsb : ls.length ≤ 1099511627776 := by
    have := ok_len s.data.toList
    rw [← hls, len_size] at this
    omega
  clear hE hAt hls
  go_wp2_with fail
  refine K6.out.mono ?_
  rintro e w7 ⟨v7, rfl, ow7⟩
  have N7 := hid (ow7.nl.new ((Touch.refl _ _).alloc (.cells #[.int .i64 E, .int .i64 At] 27)))
  obtain ⟨a7, c7, hv7⟩ := own_shape ow7.own
  subst hv7
  have T7 := hid ((T5.out.trans ow7.touch (fun _ _ e => e)).alloc (.cells #[.int .i64 E, .int .i64 At] 27))
  have F7 := hid (two_new (w := w7) (.int .i64 E) (.int .i64 At) 27)
  have TT := hid (ow7.touch.alloc (.cells #[.int .i64 E, .int .i64 At] 27))
  have F5b := hid ((TT.out.block q5 (lt_of_block F5.out) id).trans F5.out)
  have N5b := hid (N5.out.new TT.out)
  clear ow7 K6 T5 F5 N5 TT
  go_upto_region 8 with fail
  generalize w7.alloc (.cells #[.int .i64 E, .int .i64 At] 27) = w8 at *
  generalize w7.heap.size = q7 at *
  go_wp2_with fail
  refine (K7.out w8).mono ?_
  rintro e w9 ⟨v9, rfl, ow9⟩
  have N9 := hid ow9.nl
  obtain ⟨a9, c9, hv9⟩ := own_shape ow9.own
  subst hv9
  have T9 := hid (T7.out.trans ow9.touch (fun _ _ e => e))
  have F5c := hid ((ow9.touch.block q5 (lt_of_block F5b.out) id).trans F5b.out)
  have F7c := hid ((ow9.touch.block q7 (lt_of_block F7.out) id).trans F7.out)
  have N5c := hid (N5b.out.new ow9.touch)
  have N7c := hid (N7.out.new ow9.touch)
  have N0c := hid (HN0.out.new T9.out)
  clear ow9 K7 T7 F7 N7 F5b N5b HN0
  have f0 := cell_two0 F5c.out
  have f1 := cell_two1 F5c.out
  have f2 := cell_two0 F7c.out
  have f3 := cell_two1 F7c.out
  clear F5c F7c
  obtain ⟨n5, hn5⟩ : ∃ n5, n5 = (pre ns).length := ⟨_, rfl⟩
  rw [← hn5]
  have HP5 := hid (show ∀ i, i < n5 → ∃ (h1 : i < (pre ns).length) (h2 : i < ns.length), (pre ns)[i] = ns[i] from fun i h => by
    rw [hn5] at h
    obtain ⟨h2, h3⟩ := pre_get ns i h
    exact ⟨h, h2, h3⟩)
  have HPE := hid (show n5 = ns.length ∨ ∃ h : n5 < ns.length, 9999999 < (ns[n5]).length from by
    rcases pre_end ns with h | ⟨h, h2⟩
    · exact .inl (by rw [hn5]; exact h)
    · exact .inr ⟨by rw [hn5]; exact h, by simpa [hn5] using h2⟩)
  rw [← hn5] at N5c
  have hn5b : n5 ≤ ns.length := by
    rcases HPE.out with h | ⟨h, _⟩ <;> omega
  clear hn5
  go_upto_region 11 with fail
  clear f0 f1 f2 f3
  go_wp2_with fail
  go_loopg [13] ls.length (fun gk v13 wq => ∃ i : Nat, i + gk = ls.length ∧ v13 = .int .i64 (i : Nat) ∧ Touch (fun _ => False) w9 wq)
  case atStart => exact ⟨0, by omega, rfl, Touch.refl _ _⟩
  case round =>
    obtain ⟨i, hig, rfl, tq⟩ := hrel
    have TQ := hid tq
    clear tq
    by_cases hlt : i < ls.length
    · have hltI : (i : Int) < (ls.length : Int) := by omega
      obtain ⟨G, rfl⟩ : ∃ G, gk = G + 1 := ⟨gk - 1, by omega⟩
      obtain ⟨b7, o7, h7a, h7c⟩ := nl_at (N7c.out.new TQ.out) i hlt
      obtain ⟨b9, o9, h9a, h9c⟩ := nl_at (N9.out.new TQ.out) i hlt
      subst h7a h9a
      obtain ⟨T, hT, _, _⟩ := name_ba ls[i]
      rw [hT] at h7c h9c
      clear hT
      go_wp2_with fail
      go_quiet (fail)
      go_wp2
      go_roundg G
      case measure => omega
      case rel => exact ⟨i + 1, by omega, by go_num, TQ.out.drewN _⟩
    · have hltI : ¬ (i : Int) < (ls.length : Int) := by omega
      clear N7c N9
      go_wp2_with fail
      go_loopg [14] n5 (fun gk v14 wq => ∃ i : Nat, i + gk = n5 ∧ v14 = .int .i64 (i : Nat) ∧ Touch (fun _ => False) w9 wq)
      case atStart => exact ⟨0, by omega, rfl, TQ.out⟩
      case round =>
        obtain ⟨k, hkg, rfl, tq⟩ := hrel
        have TR := hid tq
        clear tq TQ
        by_cases hlt2 : k < n5
        · have hlt2I : (k : Int) < (n5 : Int) := by omega
          obtain ⟨G, rfl⟩ : ∃ G, gk = G + 1 := ⟨gk - 1, by omega⟩
          obtain ⟨h1, h2, h3⟩ := HP5.out k hlt2
          obtain ⟨b5, o5, h5a, h5c⟩ := nl_at (N5c.out.new TR.out) k h1
          obtain ⟨b0, o0, h0a, h0c⟩ := nl_at (N0c.out.new TR.out) k h2
          subst h5a h0a
          rw [h3] at h5c
          obtain ⟨T, hT, _, _⟩ := name_ba ns[k]
          rw [hT] at h5c h0c
          have h2I : (k : Int) < (ns.length : Int) := by omega
          clear hT h3 h1
          go_wp2_with fail
          go_quiet (fail)
          go_wp2
          go_roundg G
          case measure => omega
          case rel => exact ⟨k + 1, by omega, by go_num, TR.out.drewN _⟩
        · have hlt2I : ¬ (k : Int) < (n5 : Int) := by omega
          have TF := hid ((T9.out.trans TR.out (fun _ _ e => e)).below w.heap.size (Nat.le_refl _) (fun _ e => e.elim))
          rcases HPE.out with h | ⟨h, h2⟩
          · have he : (n5 : Int) = (ns.length : Int) := by omega
            have heB : ((n5 : Int) == (ns.length : Int)) = true := by simpa using he
            subst h
            clear he heB
            go_wp2
            go_ret
            exact ⟨rfl, TF.out⟩
          · obtain ⟨b0, o0, h0a, h0c⟩ := nl_at (N0c.out.new TR.out) n5 h
            subst h0a
            obtain ⟨T, hT, hTs, _⟩ := name_ba ns[n5]
            rw [hT] at h0c
            have hbig : (9999999 : Int) < (T.size : Int) := by omega
            have he : ¬ (n5 : Int) = (ns.length : Int) := by omega
            have heB : ((n5 : Int) == (ns.length : Int)) = false := by simpa using he
            have hltE : (n5 : Int) < (ns.length : Int) := by omega
            clear hT hTs h2
            go_wp2
            go_ret
            exact ⟨rfl, TF.out⟩
end Go.Proofs.YtmeekjfnmdbnpaaDoor
