/- Texts of this proof, one behind the other: what each says stands ahead of it. -/
import Derived.Test.YtdhhcefmmojcmaaGreatDoorM20
import Derived.Test.YtdhhcefmmojcmaaGreatDoorM4
/- A parser of patterns: append of a set's ranges to ranges; no condition. -/
namespace Go.Proofs.YtdhhcefmmojcmaaGreatDoor
open Go.RowKit
open Go.Lib

theorem append_types (w : World) (ty : TypeId) (p : Option Addr) (n c : Nat) (x : Value) : (Builtin.append_ #[24, 25] ty #[.slice p n c, x]).run Tryz.prog w = (Builtin.append_ #[24, 24] ty #[.slice p n c, x]).run Tryz.prog w := by
  simp only [Builtin.append_, List.getElem?_toArray, List.getElem?_cons_zero, List.getElem?_cons_succ, Sem.run_bind, run_underlying Tryz.underlying24, run_underlying Tryz.underlying25, Result.andThen_ok]
theorem run_append_none24 (w : World) (ty : TypeId) (v : Value) (n : Nat) (xs : List Value) (hown : w.ownsRow 0 60 2 v n xs) (a : Option Addr) (c : Nat) :
    (Builtin.append_ #[24, 24] ty #[v, .slice a 0 c]).run Tryz.prog w = .ok v w := by
  obtain ⟨i0, hin, hz0, hz1, hz2⟩ := info_parts info33
  have hld : ∀ ad, (loadCells ad 0).run Tryz.prog w = .ok #[] w := fun ad => rfl
  rcases hown.2 with ⟨rfl, rfl⟩ | ⟨g, cap, cur, rfl, hbg, hg, hnc, hcm, hcs, htake⟩ <;> cases a <;>
    simp [Builtin.append_, run_underlying Tryz.underlying24, sizeOf, typeInfo, Builtin.lenOf, Builtin.firstCells, storeCells, *]
theorem run_append_rg24 (w : World) (ty : TypeId) (v : Value) (n : Nat) (xs : List Value) (hown : w.ownsRow 0 60 2 v n xs) (a : Option Addr) (c : Nat) (l : List R2) (hl : Rg w a l) (hb : (n + l.length) * 16 ≤ 140737488355328) :
    ∃ v' w', (Builtin.append_ #[24, 24] ty #[v, .slice a l.length c]).run Tryz.prog w = .ok v' w' ∧ w'.ownsRow 0 60 2 v' (n + l.length) (xs ++ flatR l) ∧ w.grownBy w' v.ownBlock ∧ (v'.ownBlock = v.ownBlock ∨ v'.ownBlock = some w.heap.size) := by
  obtain ⟨i0, hin, hz0, hz1, hz2⟩ := info_parts info33
  rcases hl with rfl | ⟨b, o, rfl, _, hc⟩
  · refine ⟨v, w, run_append_none24 w ty v n xs hown a c, ?_, ⟨rfl, rfl, rfl, Nat.le_refl _, fun _ _ _ => rfl⟩, .inl rfl⟩
    rw [show flatR [] = [] from rfl, List.append_nil]
    exact hown
  · obtain ⟨v', w', h1, h2, h3, _, h4⟩ := run_append_own_at (P := Tryz.prog) w 0 24 ty 60 i0 (.agg #[.int .i64 0, .int .i64 0]) 2 16 Tryz.underlying24 hin hz0 hz1 hz2 rfl (by decide) v n xs hown ⟨b, o, none⟩ l.length c (flatR l) (length_flatR l) (rg_cells hc) (flatR_one l) (by unfold maxLen; omega) hb (Nat.zero_le _)
    exact ⟨v', w', h1, h2, h3, h4⟩
theorem run_append_sets (w : World) (ty : TypeId) (v : Value) (n : Nat) (xs : List Value) (hown : w.ownsRow 0 60 2 v n xs) (a : Option Addr) (c : Nat) (l : List R2) (hl : Rg w a l) (hb : (n + l.length) * 16 ≤ 140737488355328) :
    ∃ v' w', (Builtin.append_ #[24, 25] ty #[v, .slice a l.length c]).run Tryz.prog w = .ok v' w' ∧ w'.ownsRow 0 60 2 v' (n + l.length) (xs ++ flatR l) ∧ w.grownBy w' v.ownBlock ∧ (v'.ownBlock = v.ownBlock ∨ v'.ownBlock = some w.heap.size) := by
  obtain ⟨p0, c0, hv⟩ := own_shape hown
  subst hv
  rw [append_types]
  exact run_append_rg24 w ty _ n xs hown a c l hl hb
theorem wpList_append_sets (w : World) {ops : Array Oper} {rest : List Oper} {o : Oper} {a : Act} {Q : Exit → Act → World → Prop} (hgd : o.guard = none) (s x : Operand)
    (ho : o.op = .call { callee := .builtin .append, args := #[s, x], argTypes := #[24, 25] })
    (v : Value) (n : Nat) (xs : List Value) (hs : a.eval s = v) (hown : w.ownsRow 0 60 2 v n xs) (ad : Option Addr) (c : Nat) (l : List R2) (hx : a.eval x = .slice ad l.length c) (hl : Rg w ad l) (hb : (n + l.length) * 16 ≤ 140737488355328)
    (h : ∀ v' w', w'.ownsRow 0 60 2 v' (n + l.length) (xs ++ flatR l) → w.grownBy w' v.ownBlock → (v'.ownBlock = v.ownBlock ∨ v'.ownBlock = some w.heap.size) → wpList Tryz.prog ops Q rest (a.put o.dst v') w') : wpList Tryz.prog ops Q (o :: rest) a w := by
  refine wpList_plain hgd fun K hK => ?_
  obtain ⟨v', w', hr, h2, h3, h4⟩ := run_append_sets w o.type v n xs hown ad c l hl hb
  unfold Oper.wp execOp
  simp only [ho, resolve, invoke, builtin, Sem.run_bind, Sem.run_pure, Result.andThen_ok, List.map_toArray, List.map_cons, List.map_nil, hs, hx, hr]
  exact hK _ _ (h v' w' h2 h3 h4)
end Go.Proofs.YtdhhcefmmojcmaaGreatDoor

/- A parser of patterns: what stands in brackets; conditions: as told. -/
namespace Go.Proofs.YtdhhcefmmojcmaaGreatDoor
open Go.RowKit
open Go.Lib

theorem grow_rows {w w1 w4 : World} {b : Nat} {X : Px} {k : Nat} {f : Fl} {vn : Value} {ns : List ByteArray} {op : Nat} {v v' : Value} {L m : List R2} (h : PS w1 b X k f vn ns op) (hb : b < w.heap.size)
    (ho : w1.ownsRow 0 60 2 v L.length (flatR L)) (hn : ∀ g, v.ownBlock = some g → w.heap.size ≤ g) (T : Touch (fun g => g = b) w w1)
    (hown : w4.ownsRow 0 60 2 v' (L.length + m.length) (flatR L ++ flatR m)) (hg : w1.grownBy w4 v.ownBlock) (hat : v'.ownBlock = v.ownBlock ∨ v'.ownBlock = some w1.heap.size) :
    PS w4 b X k f vn ns op ∧ w4.ownsRow 0 60 2 v' (L ++ m).length (flatR (L ++ m)) ∧ (∀ g, v'.ownBlock = some g → w.heap.size ≤ g) ∧ Touch (fun g => g = b) w w4 := by
  have TG : Touch (fun k => v.ownBlock = some k) w1 w4 := Touch.grown (Touch.refl _ w1) hg (fun k e _ => e)
  refine ⟨h.far TG (fun g e => ⟨by have := hn g e; omega, fun cs fr hh => ?_⟩), ?_, fun g e => ?_, T.grown hg (fun k e hk => by have := hn k e; omega)⟩
  · obtain ⟨cs2, fr2, h2⟩ := own_type ho g e
    rw [hh] at h2
    cases h2
  · rw [List.length_append, flatR_append]
    exact hown
  · rcases hat with e2 | e2
    · exact hn g (by rw [← e2]; exact e)
    · rw [e2] at e
      cases e
      exact T.size
theorem cn_cn (l : List R2) : cnR (cnR l) = cnR l := (cn_is (cn_good l).1 (Eqv.refl _)).symm
theorem cn_eqv {l m : List R2} (h : Eqv l m) : cnR l = cnR m := by
  refine cn_is (cn_good l).1 (fun x a b => ?_)
  rw [(cn_good l).2 x]
  exact ⟨fun e => (h x a b).1 e.2, fun e => ⟨⟨a, b⟩, (h x a b).2 e⟩⟩
theorem not_eqv {l m : List R2} (h : Eqv l m) : notR l = notR m := by unfold notR; rw [cn_eqv h]
theorem cn_len (l : List R2) : (cnR l).length ≤ 557057 := canon_len (cn_good l).1
set_option maxRecDepth 100000 in
set_option maxHeartbeats 8000000 in
theorem items_any (b : Nat) (X : Px) (k0 k : Nat) (f : Fl) (vn : Value) (ns : List ByteArray) (op : Nat) (w : World) (h : PS w b X k f vn ns op) (hX : X.Good) (hk : k ≤ X.R.length) (hk0 : k0 ≤ X.R.length) :
    Calls Tryz.prog 111 #[.pointer (some ⟨b, 0, none⟩), .int .i64 (k0 : Nat)] w fun e w' => SetP b X f vn ns op w (classF X.R tableN k0 k) e w' := by
  have hlen := hX.lenR
  have hb := h.lt
  obtain ⟨q, kk, hkk, hF, KT⟩ : ∃ (q : Bool) (kk : Nat), kk ≤ X.R.length ∧ classF X.R tableN k0 k = turnC q (class2 X.R tableN k0 kk) ∧
      Calls Tryz.prog 69 #[.pointer (some ⟨b, 0, none⟩), .string ⟨#[94]⟩] w fun e w' => e = .returned (.bool q) ∧ PS w' b X kk f vn ns op ∧ Touch (fun g => g = b) w w' := by
    unfold classF
    by_cases e : lkR X.R k = 94
    · exact ⟨true, k + 1, lk_is e (by decide), by rw [if_pos e], took1_y 94 h (by omega) e⟩
    · exact ⟨false, k, hk, by rw [if_neg e], took1_n 94 h (by omega) e⟩
  rw [hF]
  obtain ⟨A, hA⟩ : ∃ A, A = turnC q (class2 X.R tableN k0 kk) := ⟨_, rfl⟩
  have HA := hid hA.symm
  rw [← hA]
  unfold class2 at HA
  have TK := hid (Touch.refl (fun g => g = b) w)
  have KI := hid (fun (k' : Nat) (hk' : k' ≤ X.R.length) w' hp => item_any b X k0 k' f vn ns op w' hp hX hk' hk0)
  have HI := hid (fun (k' : Nat) l k1 (e : itemF X.R tableN k0 k' = .ok (l, k1)) => item_fwd e)
  replace KT := hid KT
  have HKK := hid hkk
  have HLEN := hid hlen
  have HB := hid hb
  clear hA hF h hX hk hk0 hlen hb hkk
  have KM := hid (KI.out kk HKK.out)
  have HM := hid (HI.out kk)
  generalize itemF X.R tableN k0 kk = M at *
  go_enter Tryz.func111, Tryz.ntmps111
  go_wp2_with fail
  refine KT.out.mono ?_
  rintro e w1 ⟨rfl, hp, tt⟩
  have HK := hid hp
  replace TK := hid (TK.out.trans tt (fun _ _ e => e))
  clear hp tt KT
  have KM2 := hid (KM.out _ HK.out)
  clear KM
  match M with
  | .error (ec, ej) =>
    unfold SetP thrown at KM2
    go_wp2_with fail
    refine KM2.out.mono ?_
    rintro e w2 ⟨rfl, tt⟩
    replace TK := hid (TK.out.trans tt (fun _ _ e => e))
    clear tt KM2 KI HI HM
    go_wp2
    refine ⟨rfl, ?_⟩
    rw [← HA.out]
    exact ⟨rfl, TK.out⟩
  | .ok (l0, k1) =>
    have HK1 := hid (HM.out l0 k1 rfl)
    unfold SetP at KM2
    simp only at KM2 HA
    clear HM
    go_wp2_with fail
    refine KM2.out.mono ?_
    rintro e w2 ⟨v, rfl, ho, hn, hp, tt⟩
    have O := hid ho
    have N := hid (fun g e => Nat.le_trans TK.out.size (hn g e))
    replace HK := hid hp
    replace TK := hid (TK.out.trans tt (fun _ _ e => e))
    have HL0 := hid (show (cnR l0).length ≤ k1 * 557057 from by have := cn_len l0; have := HK1.out; omega)
    clear ho hn hp tt KM2
    have HG := hid (show itemsF X.R tableN k0 (X.R.length + 1) k1 l0 = itemsF X.R tableN k0 (X.R.length + 1) k1 l0 from rfl)
    obtain ⟨Z, hZ⟩ : ∃ Z, Z = itemsF X.R tableN k0 (X.R.length + 1) k1 l0 := ⟨_, rfl⟩
    rw [← hZ] at HA
    replace HG := hid hZ.symm
    clear hZ HKK
    go_wp2_with fail
    go_loopg [6] (X.R.length + 1) (fun gk vq wq => ∃ (k : Nat) (l L : List R2), X.R.length + 1 ≤ k + gk ∧ Hid (k ≤ X.R.length) ∧ Hid (itemsF X.R tableN k0 gk k l = Z) ∧ Hid (Eqv L l) ∧ Hid (L.length ≤ k * 557057) ∧ Hid (wq.ownsRow 0 60 2 vq L.length (flatR L)) ∧ Hid (∀ g, vq.ownBlock = some g → w.heap.size ≤ g) ∧ Hid (PS wq b X k f vn ns op) ∧ Hid (Touch (fun g => g = b) w wq))
    case atStart => exact ⟨k1, l0, cnR l0, by omega, hid HK1.out.2, HG, hid (eqv_cn l0), HL0, O, N, HK, TK⟩
    case round =>
      obtain ⟨k, l, L, hgk, HKL, HG, HE, HLL, O, N, HK, TK⟩ := hrel
      obtain ⟨gk, rfl⟩ : ∃ g, gk = g + 1 := ⟨gk - 1, by have := HKL.out; omega⟩
      rw [itemsF] at HG
      obtain ⟨a0, c0, hv⟩ := own_shape O.out
      subst hv
      by_cases h93 : lkR X.R k = 93
      · rw [if_pos h93] at HG
        have KT := hid (took1_y 93 HK.out (by have := HKL.out; have := HLEN.out; omega) h93)
        have HZ := HG.out
        subst HZ
        clear h93 KI HI
        go_wp2_with fail
        refine KT.out.mono ?_
        rintro e w3 ⟨rfl, hp, tt⟩
        replace O := hid (rowKept O.out tt (fun g e s => by have := N.out g e; have := HB.out; omega))
        replace HK := hid hp
        replace TK := hid (TK.out.trans tt (fun _ _ e => e))
        have R1 := hid (show Rg w3 a0 L from by obtain ⟨a1, c1, he, hr⟩ := own_rg O.out; cases he; exact hr)
        have K4 := hid (of_cn a0 c0 L w3 R1.out (by have := HLL.out; have := HKL.out; have := HLEN.out; omega))
        clear hp tt KT HG
        go_wp2_with fail
        refine K4.out.mono ?_
        rintro e w4 ⟨v4, rfl, o4⟩
        have HCN := hid (cn_eqv HE.out)
        have HNQ := hid (not_eqv HE.out)
        obtain ⟨a4, c4, hv, r4⟩ := o4.slice
        subst hv
        have O4 := hid (o4.own)
        have N4 := hid (fun g e => Nat.le_trans TK.out.size (o4.new g e))
        replace HK := hid (HK.out.new o4.touch)
        replace TK := hid (TK.out.trans o4.touch (fun _ _ e => e.elim))
        have K5 := hid (not_cn2 a4 c4 L w4 r4)
        clear o4 K4 O N R1 r4
        go_wp2_with fail
        refine K5.out.mono ?_
        rintro e w5 ⟨v5, rfl, o5⟩
        have O5 := hid (o5.own)
        have N5 := hid (fun g e => Nat.le_trans TK.out.size (o5.new g e))
        replace HK := hid (HK.out.new o5.touch)
        replace O4 := hid (rowKept O4.out o5.touch (fun _ _ e => e))
        replace TK := hid (TK.out.trans o5.touch (fun _ _ e => e.elim))
        obtain ⟨a5, c5, hv, r5⟩ := o5.slice
        subst hv
        clear o5 K5 r5
        cases q with
        | true =>
          have K6 := hid (pick_set true (.slice a5 (notR L).length c5) (.slice a4 (cnR L).length c4) w5)
          simp only [if_true] at K6
          go_wp2_with fail
          refine K6.out.mono ?_
          rintro e w6 ⟨rfl, rfl⟩
          clear K6
          go_wp2
          go_ret
          rw [← HA.out]
          refine ⟨_, rfl, ?_, N5.out, HK.out, TK.out⟩
          rw [if_pos rfl, cn_not, ← HNQ.out]
          exact O5.out
        | false =>
          have K6 := hid (pick_set false (.slice a5 (notR L).length c5) (.slice a4 (cnR L).length c4) w5)
          simp only [Bool.false_eq_true, if_false] at K6
          go_wp2_with fail
          refine K6.out.mono ?_
          rintro e w6 ⟨rfl, rfl⟩
          clear K6
          go_wp2
          go_ret
          rw [← HA.out]
          refine ⟨_, rfl, ?_, N4.out, HK.out, TK.out⟩
          rw [if_neg (by decide), cn_cn, ← HCN.out]
          exact O4.out
      · rw [if_neg h93] at HG
        have KT := hid (took1_n 93 HK.out (by have := HKL.out; have := HLEN.out; omega) h93)
        have KM := hid (KI.out k HKL.out)
        have HM := hid (HI.out k)
        generalize itemF X.R tableN k0 k = M at *
        have HG2 := HG
        clear h93 HG
        go_wp2_with fail
        refine KT.out.mono ?_
        rintro e w3 ⟨rfl, hp, tt⟩
        replace O := hid (rowKept O.out tt (fun g e s => by have := N.out g e; have := HB.out; omega))
        replace HK := hid hp
        replace TK := hid (TK.out.trans tt (fun _ _ e => e))
        have KM2 := hid (KM.out _ HK.out)
        clear hp tt KT KM
        match M with
        | .error (ec, ej) =>
          unfold SetP thrown at KM2
          simp only at HG2
          have HZ := HG2.out
          subst HZ
          go_wp2_with fail
          refine KM2.out.mono ?_
          rintro e w4 ⟨rfl, tt⟩
          replace TK := hid (TK.out.trans tt (fun _ _ e => e))
          clear tt KM2 KI HI HM
          go_wp2
          refine ⟨rfl, ?_⟩
          rw [← HA.out]
          exact ⟨rfl, TK.out⟩
        | .ok (m, k2) =>
          have HK2 := hid (HM.out m k2 rfl)
          unfold SetP at KM2
          simp only at KM2 HG2
          clear HM
          go_wp2_with fail
          refine KM2.out.mono ?_
          rintro e w4 ⟨v4, rfl, ho, hn, hp, tt⟩
          obtain ⟨a4, c4, hv, r4⟩ := own_rg ho
          subst hv
          replace O := hid (rowKept O.out tt (fun g e s => by have := N.out g e; have := HB.out; omega))
          replace HK := hid hp
          replace TK := hid (TK.out.trans tt (fun _ _ e => e))
          have R4 := hid r4
          clear ho hn hp tt KM2 r4
          go_wp2_with (at_builtin; refine wpList_append_sets _ rfl _ _ rfl _ _ _ rfl O.out a4 c4 (cnR m) rfl R4.out (by have := HLL.out; have := HKL.out; have := HLEN.out; have := cn_len m; omega) ?_)
          intro v' w5 hown hgrow hat
          have OW := hid hown
          have HGR := hid hgrow
          have HAT := hid hat
          clear hown hgrow hat
          have HALL := hid (grow_rows (m := cnR m) HK.out HB.out O.out N.out TK.out OW.out HGR.out HAT.out)
          clear OW HGR HAT O N TK HK R4
          go_wp2
          go_roundg gk
          case measure => omega
          case rel =>
            exact ⟨k2, l ++ m, L ++ cnR m, by have := HK2.out; omega, hid HK2.out.2, HG2, hid (HE.out.app (eqv_cn m)), hid (by have := HK2.out; have := HLL.out; have := cn_len m; rw [List.length_append]; omega), hid HALL.out.2.1, hid HALL.out.2.2.1, hid HALL.out.1, hid HALL.out.2.2.2⟩
end Go.Proofs.YtdhhcefmmojcmaaGreatDoor
