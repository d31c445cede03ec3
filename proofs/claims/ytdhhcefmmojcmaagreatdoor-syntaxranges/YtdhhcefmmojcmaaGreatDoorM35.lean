/- Texts of this proof, one behind the other: what each says stands ahead of it. -/
import Derived.Test.YtdhhcefmmojcmaaGreatDoorYp
import Derived.Test.YtdhhcefmmojcmaaGreatDoorM33
import Derived.Recover
/- A parser of patterns: alternatives, brackets in brackets; conditions: the text has at most 1024 scalars. -/
namespace Go.Proofs.YtdhhcefmmojcmaaGreatDoor
open Go.RowKit
open Go.Lib

theorem PcL.first {lo : Nat} {w : World} {c : Cel} {x : Nd} {B : Nat → Prop} (hx : TN w B c x) (hB : ∀ g, B g → lo ≤ g ∧ g < w.heap.size) (hlo : lo ≤ w.heap.size) : PcL lo (w.alloc (.cells c.arr 28)) (.slice (some ⟨w.heap.size, 0, none⟩) 1 1) [c] [x] := by
  refine ⟨cl_one w c, fun g e => ?_, rfl, fun i c' x' e1 e2 => ?_⟩
  · cases e
    exact hlo
  · match i with
    | 0 =>
      cases e1
      cases e2
      refine (hx.new ((Touch.refl (fun _ => False) w).alloc _)).more (fun g hg => ⟨⟨(hB g hg).1, ?_⟩, fun e => ?_⟩)
      · have := (hB g hg).2
        simp
        omega
      · obtain rfl : w.heap.size = g := Option.some.inj e
        have := (hB _ hg).2
        omega
    | i + 1 => cases e1
/-- What the loop of alternatives is at. -/
def AltR (b : Nat) (X : Px) (op : Nat) (sub : Option Sub) (w0 : World) (vn : Value) (q : Nat) (Z : PR (Nd × St)) (n : Nat) (v3 : Value) (wr : World) : Prop :=
  ∃ (st : St) (l : List Nd) (cs : List Cel) (vn' : Value), X.R.length + 1 ≤ st.k + n ∧ Hid (st.k ≤ X.R.length) ∧ Hid (altsF X.R tableN sub n st l = Z) ∧ Hid (st.ns.length ≤ st.k + 1) ∧ Hid (l.length ≤ st.k + 1) ∧ Hid (PS wr b X st.k st.f vn' st.ns op) ∧ Hid (PcL (q + 1) wr v3 cs l) ∧
    Hid (vn'.ownBlock = vn.ownBlock ∨ ∃ g, vn'.ownBlock = some g ∧ w0.heap.size ≤ g) ∧ Hid (wr.heap[q]? = some (.cells Cel.zero.arr 28 (0, 0))) ∧ Hid (Touch (fun g => g = b ∨ vn.ownBlock = some g) w0 wr)
set_option maxRecDepth 100000 in
set_option maxHeartbeats 8000000 in
theorem alts_any (b : Nat) (X : Px) (k : Nat) (f : Fl) (vn : Value) (ns : List ByteArray) (op : Nat) (sub : Option Sub) (w : World) (h : PS w b X k f vn ns op) (hX : X.Good) (hk : k ≤ X.R.length) (hN : ns.length ≤ k + 1) (hs : SubS b X op sub) :
    Calls Tryz.prog 45 #[.pointer (some ⟨b, 0, none⟩)] w fun e w' => NodP b X vn op (fun _ => False) w (altB X.R tableN sub ⟨k, f, ns⟩) e w' := by
  obtain ⟨i0, hi28, hz0, hz1, hz2⟩ := info_parts info28n
  obtain ⟨A, hA⟩ : ∃ A, A = altB X.R tableN sub ⟨k, f, ns⟩ := ⟨_, rfl⟩
  have HA := hid hA.symm
  rw [← hA]
  unfold altB at HA
  clear hA
  have TA := hid ((Touch.refl (fun _ => False) w).alloc (.cells Cel.zero.arr 28))
  have QB := hid (block_new w Cel.zero.arr 28)
  have HP := hid (h.new ((Touch.refl (fun _ => False) w).alloc (.cells Cel.zero.arr 28)))
  have hlt := h.lt
  have HLEN := hid hX.lenR
  have KR := hid (fun (k' : Nat) (f' : Fl) (vn' : Value) (ns' : List ByteArray) w' hp hk' hN' => row_any b X k' f' vn' ns' op sub w' hp hX hk' hN' hs)
  have HCF := hid (fun st x s1 => cat_fwd (R := X.R) (tab := tableN) hs.fwd st x s1)
  have HCG := hid (fun st x s1 => cat_grw (R := X.R) (tab := tableN) hs.fwd hs.grw st x s1)
  have HKK := hid hk
  have HNN := hid hN
  clear h hX hk hN hs
  go_enter Tryz.func45, Tryz.ntmps45
  go_upto_region 1 with fail
  unfold Cel.zero Cel.arr at TA QB HP
  generalize w.alloc (.cells _ 28) = w1 at *
  obtain ⟨q, hq⟩ : ∃ q, q = w.heap.size := ⟨_, rfl⟩
  have HQ := hid (show w.heap.size ≤ q ∧ b < q by omega)
  rw [← hq] at QB ⊢
  clear hq hlt
  have KR1 := hid (KR.out k f vn ns _ HP.out HKK.out HNN.out)
  have HF1 := hid (fun x s1 => HCF.out ⟨k, f, ns⟩ x s1 HKK.out)
  have HG1 := hid (fun x s1 => HCG.out ⟨k, f, ns⟩ x s1 HKK.out)
  generalize catF X.R tableN sub ⟨k, f, ns⟩ = M at *
  match M with
  | .error (ec, ej) =>
    unfold NodP thrown at KR1
    simp only at KR1 HA
    clear HF1 HG1 HCF HCG
    go_wp2_with fail
    refine KR1.out.mono ?_
    rintro e w2 ⟨rfl, t2⟩
    have TT := hid ((TA.out.mono (S' := fun g => g = b ∨ vn.ownBlock = some g) (fun _ _ e => e.elim)).trans t2 (fun _ _ e => e))
    clear t2 KR1 KR
    go_wp2
    refine ⟨rfl, ?_⟩
    rw [← HA.out]
    exact ⟨rfl, TT.out⟩
  | .ok (x, ⟨k1, f1, ns1⟩) =>
    unfold NodP at KR1
    simp only at KR1 HA
    have HF2 := hid (HF1.out _ _ rfl)
    have HG2 := hid (HG1.out _ _ rfl)
    clear HF1 HG1
    obtain ⟨Z, hZ⟩ : ∃ Z, Z = altsF X.R tableN sub (X.R.length + 1) ⟨k1, f1, ns1⟩ [x] := ⟨_, rfl⟩
    rw [← hZ] at HA
    have HZ := hid hZ.symm
    clear hZ
    go_wp2_with fail
    refine KR1.out.mono ?_
    rintro e w2 ⟨c, vn2, rfl, ht2, hp2, hn2, t2⟩
    have TT := hid ((TA.out.mono (S' := fun g => g = b ∨ vn.ownBlock = some g) (fun _ _ e => e.elim)).trans t2 (fun _ _ e => e))
    have HV := hid (show vn2.ownBlock = vn.ownBlock ∨ ∃ g, vn2.ownBlock = some g ∧ w.heap.size ≤ g from by
      rcases hn2 with e | ⟨g, e, hg⟩
      · exact .inl e
      · exact .inr ⟨g, e, Nat.le_trans TA.out.size hg⟩)
    have HQ4 := hid (lt_of_block QB.out)
    replace QB := hid ((t2.block q (lt_of_block QB.out) (fun e => by
      rcases e with e | e
      · have := HQ.out; omega
      · exact HP.out.notN QB.out (by decide) e)).trans QB.out)
    have PC := hid (PcL.first (lo := q + 1) ht2 (fun g e => by have := HQ4.out; rcases e with e | e; exact e.elim; exact ⟨by omega, e.2⟩) (lt_of_block QB.out))
    obtain ⟨ck, sa, sn, sc, fo, mi, ma, la, ca, nm, ka, kn, kc⟩ := c
    have TB := hid ((Touch.refl (fun _ => False) w2).alloc (.cells (Cel.arr ⟨ck, sa, sn, sc, fo, mi, ma, la, ca, nm, ka, kn, kc⟩) 28))
    replace HP := hid (hp2.new TB.out)
    replace QB := hid ((TB.out.block q (lt_of_block QB.out) id).trans QB.out)
    replace TT := hid (TT.out.trans TB.out (fun _ _ e => e.elim))
    clear t2 KR1 hp2 hn2 ht2 TA TB HQ4
    unfold Cel.arr at *
    go_upto_region 2 with fail
    generalize w2.alloc (.cells _ 28) = w3 at *
    generalize w2.heap.size = q2 at *
    go_wp2_with fail
    go_loopg [3] (X.R.length + 1) (fun gk v3 wq => AltR b X op sub w vn q Z gk v3 wq)
    case atStart => exact ⟨⟨k1, f1, ns1⟩, [x], _, vn2, by simp only; omega, hid HF2.out.2, HZ, hid (by have := HF2.out; have := HG2.out; have := HNN.out; simp only at *; omega), hid (by simp), HP, PC, HV, QB, TT⟩
    case round =>
      clear HP QB HZ HKK HNN PC HV TT HF2 HG2
      obtain ⟨⟨k, f, ns⟩, l, cs, vn', hgk, HK, HZ, HN, HL, HP, PC, HV, QB, TT⟩ := hrel
      simp only at hgk HK HZ HN HL HP
      obtain ⟨gk, rfl⟩ : ∃ g, gk = g + 1 := ⟨gk - 1, by have := HK.out; omega⟩
      rw [altsF] at HZ
      simp only at HZ
      obtain ⟨a3, c3, hv3⟩ := own_shape PC.out.own
      subst hv3
      have hk2 : k ≤ 1024 := by have := HLEN.out; have := HK.out; omega
      by_cases h124 : lkR X.R k = 124
      · rw [if_pos h124] at HZ
        have hk3 : k + 1 ≤ X.R.length := lk_is h124 (by decide)
        have KT := hid (took1_y 124 HP.out (by omega) h124)
        have KR1 := hid (fun w' hp => KR.out (k + 1) f vn' ns w' hp hk3 (by have := HN.out; omega))
        have HF1 := hid (fun x s1 => HCF.out ⟨k + 1, f, ns⟩ x s1 hk3)
        have HG1 := hid (fun x s1 => HCG.out ⟨k + 1, f, ns⟩ x s1 hk3)
        go_wp2_with fail
        refine KT.out.mono ?_
        rintro e w2 ⟨rfl, hp2, t2⟩
        replace PC := hid (PC.out.kept t2 (fun g e => HP.out.nt (.inl e)))
        replace QB := hid ((t2.block q (lt_of_block QB.out) (fun e => by have := HQ.out; omega)).trans QB.out)
        replace HP := hid hp2
        replace TT := hid (TT.out.trans t2 (fun _ _ e => .inl e))
        clear t2 KT hp2
        have KR2 := hid (KR1.out _ HP.out)
        clear KR1
        generalize catF X.R tableN sub ⟨k + 1, f, ns⟩ = M at *
        match M with
        | .error (ec, ej) =>
          simp only at HZ
          unfold NodP thrown at KR2
          simp only at KR2
          clear HF1 HG1 HCF HCG
          go_wp2_with fail
          refine KR2.out.mono ?_
          rintro e w7 ⟨rfl, t7⟩
          replace TT := hid (TT.out.trans t7 (fun i hi e => by
            rcases e with e | e
            · exact .inl e
            · rcases HV.out with e2 | ⟨g, e2, hg⟩
              · exact .inr (by rw [← e2]; exact e)
              · rw [e2] at e; cases e; omega))
          clear t7 KR2 KR
          go_wp2
          refine ⟨rfl, ?_⟩
          rw [← HA.out, ← HZ.out]
          exact ⟨rfl, TT.out⟩
        | .ok (y, ⟨k2, f2, ns2⟩) =>
          simp only at HZ
          unfold NodP at KR2
          simp only at KR2
          have HF2 := hid (HF1.out _ _ rfl)
          have HG2 := hid (HG1.out _ _ rfl)
          clear HF1 HG1
          go_wp2_with fail
          refine KR2.out.mono ?_
          rintro e w7 ⟨c2, vn3, rfl, ht7, hp7, hn7, t7⟩
          have HPL := hid (fun g e => PC.out.lt (g := g) e)
          have HQ4 := hid (lt_of_block QB.out)
          have HS6 := hid TT.out.size
          replace TT := hid (TT.out.trans t7 (fun i hi e => by
            rcases e with e | e
            · exact .inl e
            · rcases HV.out with e2 | ⟨g, e2, hg⟩
              · exact .inr (by rw [← e2]; exact e)
              · rw [e2] at e; cases e; omega))
          replace HV := hid (show vn3.ownBlock = vn.ownBlock ∨ ∃ g, vn3.ownBlock = some g ∧ w.heap.size ≤ g from by
            rcases hn7 with e | ⟨g, e, hg⟩
            · rw [e]; exact HV.out
            · exact .inr ⟨g, e, Nat.le_trans HS6.out hg⟩)
          replace QB := hid ((t7.block q (lt_of_block QB.out) (fun e => by
            rcases e with e | e
            · have := HQ.out; omega
            · exact HP.out.notN QB.out (by decide) e)).trans QB.out)
          replace PC := hid (PC.out.kept t7 (fun g e => HP.out.nt e))
          replace HP := hid hp7
          have HX7 := hid ht7
          have HB7 := hid (show ∀ g, (False ∨ (w2.heap.size ≤ g ∧ g < w7.heap.size)) → ((q + 1 ≤ g ∧ g < w7.heap.size) ∧ (Value.slice a3 cs.length c3).ownBlock ≠ some g) from fun g e => by
            have h1 := HQ4.out
            rcases e with e | e
            · exact e.elim
            · exact ⟨⟨by omega, e.2⟩, fun e2 => by have := HPL.out g e2; omega⟩)
          have HLO := hid (show q + 1 ≤ w7.heap.size from lt_of_block QB.out)
          have hnb : cs.length ≤ 1025 := by have := PC.out.len; have := HL.out; omega
          clear t7 KR2 hp7 hn7 ht7 HPL HQ4 HS6
          obtain ⟨dk, ta, tn, tc, go, ni, na, ma2, da, om, la2, ln, lc⟩ := c2
          unfold Cel.arr
          go_wp2_with (at_builtin; refine wpList_append_own_at _ rfl _ _ 26 rfl 0 28 i0 (.agg Cel.zero.arr) 9 112 Tryz.underlying26 hi28 hz0 hz1 hz2 rfl (by decide) _ _ _ rfl (PC.out.own.alloc _) ⟨w7.heap.size, 0, none⟩ 1 1 (Cel.list ⟨dk, ta, tn, tc, go, ni, na, ma2, da, om, la2, ln, lc⟩) rfl rfl (row_new w7 (Cel.list ⟨dk, ta, tn, tc, go, ni, na, ma2, da, om, la2, ln, lc⟩) 28) (cel_ones ⟨dk, ta, tn, tc, go, ni, na, ma2, da, om, la2, ln, lc⟩) (by unfold maxLen; omega) (by omega) (Nat.zero_le _) ?_)
          intro v' w9 hown hgrow _ hat
          have PX := PC.out.push HX7.out HB7.out HLO.out hown hgrow (by simpa using hat)
          have PC9 := hid PX.1
          have HP9 := hid (HP.out.far PX.2 (fun g e => ⟨by have := PC.out.new g e; have := HQ.out; omega, fun cs2 fr hh => by
            obtain ⟨cs3, fr3, hh3⟩ := own_type PC.out.own g e
            rw [hh3] at hh
            cases hh⟩))
          have QB9 := hid ((PX.2.block q (lt_of_block QB.out) (fun e => by have := PC.out.new q e; omega)).trans QB.out)
          have TT9 := hid (TT.out.trans PX.2 (fun i hi e => by have := PC.out.new i e; have := HQ.out; omega))
          clear PX hown hgrow hat PC HP QB TT HX7 HB7 HLO
          go_wp2
          go_roundg gk
          case measure => omega
          case rel => exact ⟨⟨k2, f2, ns2⟩, l ++ [y], _, vn3, by have := HF2.out; simp only at *; omega, hid HF2.out.2, HZ, hid (by have := HF2.out; have := HG2.out; have := HN.out; simp only at *; omega), hid (by have := HF2.out; have := HL.out; rw [List.length_append]; simp only [List.length_singleton] at *; omega), HP9, PC9, HV, QB9, TT9⟩
      · rw [if_neg h124] at HZ
        have KT := hid (took1_n 124 HP.out (by omega) h124)
        clear KR HCF HCG
        go_wp2_with fail
        refine KT.out.mono ?_
        rintro e w2 ⟨rfl, hp2, t2⟩
        replace PC := hid (PC.out.kept t2 (fun g e => HP.out.nt (.inl e)))
        replace QB := hid ((t2.block q (lt_of_block QB.out) (fun e => by have := HQ.out; omega)).trans QB.out)
        replace HP := hid hp2
        replace TT := hid (TT.out.trans t2 (fun _ _ e => .inl e))
        clear t2 KT hp2
        have K7 := hid (PC.out.all 9)
        go_wp2_with fail
        refine K7.out.mono ?_
        rintro e w3 ⟨c, rfl, ht, t3⟩
        have HT := hid ht
        replace HP := hid (HP.out.new t3)
        replace QB := hid ((t3.block q (lt_of_block QB.out) id).trans QB.out)
        replace TT := hid (TT.out.trans t3 (fun _ _ e => e.elim))
        clear ht t3 K7 PC
        obtain ⟨ck, sa, sn, sc, fo, mi, ma, la, ca, nm, ka, kn, kc⟩ := c
        unfold Cel.arr
        go_wp2_with (first | refine wpList_store_row rfl 28 _ _ rfl q _ rfl rfl 28 _ QB.out info28 (by rfl) (Cel.one ⟨ck, sa, sn, sc, fo, mi, ma, la, ca, nm, ka, kn, kc⟩) ?_ | fail)
        refine bodyPost_ret (results_c rfl _ _ q 28 _ (0, 0) _ rfl (setRow_heap _ q _ _ 28 (0, 0) QB.out) Tryz.underlying28 rfl (by kernel_rfl)) rfl ?_
        rw [← HA.out, ← HZ.out]
        have TR := touch_row w3 q #[.int .i64 ck, .slice sa sn sc, .bool fo, .int .i64 mi, .int .i64 ma, .bool la, .int .i64 ca, .string nm, .slice ka kn kc]
        refine ⟨⟨ck, sa, sn, sc, fo, mi, ma, la, ca, nm, ka, kn, kc⟩, vn', rfl, ?_, HP.out.row HQ.out.2 QB.out, HV.out, TT.out.trans TR (fun i hi e => by have := HQ.out; omega)⟩
        exact (HT.out.kept TR (fun g hg s => by omega)).more (fun g hg => .inr ⟨by have := HQ.out; omega, Nat.lt_of_lt_of_le hg.2 TR.size⟩)
/-- Alternatives in so many brackets. -/
theorem altN_c (b : Nat) (X : Px) (hX : X.Good) : ∀ (n op : Nat), op + n = 32 → SubC b X op (altN X.R tableN n)
  | 0, op, e => fun w k f vn ns h hk hN => alts_any b X k f vn ns op none w h hX hk hN (show op = 32 by omega)
  | n + 1, op, e => fun w k f vn ns h hk hN => alts_any b X k f vn ns op (some (altN X.R tableN n)) w h hX hk hN ⟨by omega, altN_fwd X.R tableN n, altN_grw X.R tableN n, altN_c b X hX n (op + 1) (by omega)⟩
end Go.Proofs.YtdhhcefmmojcmaaGreatDoor

/- What catches a parser's throw: the deferred closure of pattern, of a frame that returns and of one that panics; no condition. -/
namespace Go.Proofs.YtdhhcefmmojcmaaGreatDoor
open Go.RowKit
open Go.Lib

def zPat : Array Value := #[.int .i64 0, .slice none 0 0, .bool false, .int .i64 0, .int .i64 0, .bool false, .int .i64 0, .string ⟨#[]⟩, .slice none 0 0, .slice none 0 0]
theorem AllReadyH.throw {P : Program} {ops : Array Oper} {Q : Exit → Act → World → Prop} {md : Region.Mode} {S : World → Prop} {fuel : Nat} {listed : Array Bool} {a : Act} {w : World} {i : Nat} {rs : List Nat} {o : Oper} (ho : ops[i]? = some o) (hw : Region.wanted o (yielded ops a.tmps) = true) (v : Value) (w' : World)
    (hr : (execOp a.eval o).run P w = .halt (.panic v) w') (h : Q (.panic [{ v, recovered := false }]) a w')
    (hs : AllReadyH P md ops Q S fuel listed a w rs) : AllReadyH P md ops Q S fuel listed a w (i :: rs) :=
  AllReadyH.cons ho (fun K _ => by
    rw [if_pos hw]
    unfold Oper.wp
    rw [hr]
    exact h) hs
theorem run_storeR (a : Act) (w : World) (o : Oper) (ty n : Nat) (x y : Operand) (ho : o.op = .store ty x y) (q : Nat) (t : TypeId) (cs old : Array Value) (e1 : a.eval x = .pointer (some ⟨q, 0, none⟩)) (e2 : a.eval y = .agg cs) (h : w.heap[q]? = some (.cells old t (0, 0))) (hl : cs.size = n) (hz : old.size = n) (hi : (Tryz.prog.info? ty).map (·.size) = some n) (h1 : cs.all (·.oneCell') = true) :
    (execOp a.eval o).run Tryz.prog w = .ok .skip (w.setRow q cs) := by
  unfold execOp
  simp only [ho, e1, e2, Instr.storeAt, Instr.sureAddr, Sem.run_bind, Sem.run_pure, Result.andThen_ok, run_storeVar_row (P := Tryz.prog) w q t ty old cs h (by rw [hl]; exact hi) (by rw [hl, hz]) h1]
theorem run_loadR (a : Act) (w : World) (o : Oper) (ty : Nat) (x : Operand) (ho : o.op = .load ty x) (q : Nat) (cs : Array Value) (e1 : a.eval x = .pointer (some ⟨q, 0, none⟩)) (h : (loadVar ty ⟨q, 0, none⟩).run Tryz.prog w = .ok (.agg cs) w) :
    (execOp a.eval o).run Tryz.prog w = .ok (.value (.agg cs)) w := by
  unfold execOp
  simp only [ho, e1, Instr.loadAt, Instr.sureAddr, Sem.run_bind, Sem.run_pure, Result.andThen_ok, h]
theorem info31 : (Tryz.prog.info? 31).map (·.size) = some 10 := by kernel_rfl
theorem info34 : (Tryz.prog.info? 34).map (·.size) = some 2 := by kernel_rfl
theorem zPat_one : zPat.all (·.oneCell') = true := by simp [zPat, Value.oneCell']
theorem two_one34 (x y : Int) : (#[.int .i64 x, .int .i64 y] : Array Value).all (·.oneCell') = true := by simp [Value.oneCell']
set_option maxRecDepth 100000 in
set_option maxHeartbeats 4000000 in
theorem catch_idle (p q : Addr) (w : World) :
    CallsD Tryz.prog 44 #[.pointer (some p), .pointer (some q)] .returning w fun e u' w' => e = .returned (.tuple #[]) ∧ u' = .returning ∧ w' = w := by
  refine callsD_of_wpS Tryz.func44 rfl fun c₀ cs hu => ?_
  apply wpS_seq
  apply wpS_region
  simp [wpOpsS, go_sem, recoverD, hu, Tryz.ntmps44, Exit.thenS]
  refine wpS_of_wp ?_
  simp [Array.replicate]
  go_wp2
  cases c₀
  simp_all [bodyPostS, results, Tryz.results44]
theorem two_new34 {w : World} (a b : Value) (t : TypeId) : (w.alloc (.cells #[a, b] t)).heap[w.heap.size]? = some (.cells #[a, b] t (0, 0)) := by
  show (w.heap.push _)[_]? = _
  simp
set_option maxRecDepth 100000 in
set_option maxHeartbeats 4000000 in
theorem catch_thrown (p q : Nat) (c : Nat) (t : Int) (older : List PanicEntry) (w : World) (oldP oldQ : Array Value) (hp : w.heap[p]? = some (.cells oldP 31 (0, 0))) (hq : w.heap[q]? = some (.cells oldQ 34 (0, 0))) (sP : oldP.size = 10) (sQ : oldQ.size = 2) (hpq : p ≠ q) :
    CallsD Tryz.prog 44 #[.pointer (some ⟨p, 0, none⟩), .pointer (some ⟨q, 0, none⟩)] (.panicking ({ v := .iface 34 (.agg #[.int .i64 (c : Nat), .int .i64 t]), recovered := false } :: older)) w fun e u' w' =>
      e = .returned (.tuple #[]) ∧ u' = .panicking ({ v := .iface 34 (.agg #[.int .i64 (c : Nat), .int .i64 t]), recovered := true } :: older) ∧
        w'.heap[p]? = some (.cells zPat 31 (0, 0)) ∧ w'.heap[q]? = some (.cells #[.int .i64 (c : Nat), .int .i64 t] 34 (0, 0)) ∧ Touch (fun k => k = p ∨ k = q) w w' := by
  have hta : ∀ (v : Value) (w : World), (Instr.typeAssert (.iface 34 v) 20 34 true).run Tryz.prog w = .ok (.tuple #[v, .bool true]) w := fun _ _ => rfl
  refine callsD_of_wpS Tryz.func44 rfl fun c₀ cs hu => ?_
  apply wpS_seq
  apply wpS_region
  simp [wpOpsS, go_sem, recoverD, hu, Tryz.ntmps44, Exit.thenS]
  refine wpS_of_wp ?_
  simp [Array.replicate]
  have T0 := hid ((Touch.refl (fun _ => False) w).alloc (.cells #[.int .i64 (c : Nat), .int .i64 t] 34))
  have B0 := hid (two_new34 (w := w) (.int .i64 (c : Nat)) (.int .i64 t) 34)
  have P0 := hid ((T0.out.block p (lt_of_block hp) id).trans hp)
  have Q0 := hid ((T0.out.block q (lt_of_block hq) id).trans hq)
  have HL := hid (show p < w.heap.size ∧ q < w.heap.size from ⟨lt_of_block hp, lt_of_block hq⟩)
  clear hp hq
  go_upto_region 5 with fail
  generalize w.alloc (.cells #[.int .i64 (c : Nat), .int .i64 t] 34) = w1 at *
  obtain ⟨r, hr⟩ : ∃ r, r = w.heap.size := ⟨_, rfl⟩
  have HN := hid (show p ≠ r ∧ q ≠ r from by have := HL.out; omega)
  rw [← hr] at B0 ⊢
  clear hr
  have mixed : Tryz.prog.follows Departure.mixedOrders = true := by kernel_rfl
  have SW := hid (show w1.drew.heap[r]? = some (.cells #[.int .i64 (c : Nat), .int .i64 t] 34 (0, 0)) from B0.out)
  have PW := hid (show w1.drew.heap[p]? = some (.cells oldP 31 (0, 0)) from P0.out)
  have QW := hid (show w1.drew.heap[q]? = some (.cells oldQ 34 (0, 0)) from Q0.out)
  have TW := hid (T0.out.drew)
  clear B0 P0 Q0 T0
  refine wp_region_held (S := fun w' => w'.heap[r]? = some (.cells #[.int .i64 (c : Nat), .int .i64 t] 34 (0, 0))) mixed ?_
  change wpAnyH _ _ _ _ _ _ _ _ w1.drew
  generalize w1.drew = w2 at *
  refine takeD (i := 0) (v := .agg zPat) (some 16) rfl (by kernel_rfl) (by kernel_rfl) (by kernel_rfl) (fun _ _ _ h => h) (.inl ⟨by kernel_rfl, fun w' hS => ?_⟩) SW.out (by kernel_rfl) ?_
  · clear hS
    go_simp
    rfl
  refine takeD (i := 1) (v := .agg #[.int .i64 (c : Nat), .int .i64 t]) (some 17) rfl (by kernel_rfl) (by kernel_rfl) (by kernel_rfl) (fun _ _ _ h => h) (.inl ⟨by kernel_rfl, fun w' hS => ?_⟩) SW.out (by kernel_rfl) ?_
  · exact run_loadR _ _ _ 34 (.tmp 3) rfl r _ (by kernel_rfl) (run_loadVar_row (P := Tryz.prog) w' r 34 34 _ (0, 0) _ hS Tryz.underlying34 rfl info34)
  refine wpAnyH_ready (rs := [2]) (by kernel_rfl) (by simp) ?_
  have TP := touch_row w2 p zPat
  refine AllReadyH.skip rfl (by kernel_rfl) (w2.setRow p zPat) (run_storeR _ _ _ 31 10 (.tmp 0) (.tmp 16) rfl p 31 zPat oldP (by kernel_rfl) (by kernel_rfl) PW.out rfl sP info31 zPat_one) ((TP.block r (lt_of_block SW.out) (fun e => HN.out.1 e.symm)).trans SW.out) (by kernel_rfl) ?_ AllReadyH.nil
  · have Q3 := (TP.block q (lt_of_block QW.out) (fun e => hpq e.symm)).trans QW.out
    have P3 := setRow_heap w2 p _ zPat 31 (0, 0) PW.out
    have R3 := (TP.block r (lt_of_block SW.out) (fun e => HN.out.1 e.symm)).trans SW.out
    generalize w2.setRow p zPat = w3 at *
    have TQ3 := touch_row w3 q #[.int .i64 (c : Nat), .int .i64 t]
    refine wpAnyH_ready (rs := [3]) (by kernel_rfl) (by simp) ?_
    refine AllReadyH.skip rfl (by kernel_rfl) (w3.setRow q #[.int .i64 (c : Nat), .int .i64 t]) (run_storeR _ _ _ 34 2 (.tmp 1) (.tmp 17) rfl q 34 #[.int .i64 (c : Nat), .int .i64 t] oldQ (by kernel_rfl) (by kernel_rfl) Q3 rfl sQ info34 (two_one34 _ _)) ((TQ3.block r (lt_of_block R3) (fun e => HN.out.2 e.symm)).trans R3) (by kernel_rfl) ?_ AllReadyH.nil
    refine wpAnyH_done (by kernel_rfl) ?_ _
    have P4 := (TQ3.block p (lt_of_block P3) (fun e => hpq e)).trans P3
    have Q4 := setRow_heap w3 q _ #[.int .i64 (c : Nat), .int .i64 t] 34 (0, 0) Q3
    have T4 := ((TW.out.mono (S' := fun k => k = p ∨ k = q) (fun _ _ e => e.elim)).trans TP (fun _ _ e => .inl e)).trans TQ3 (fun _ _ e => .inr e)
    refine ⟨rfl, _, rfl, .tuple #[], ?_, rfl, rfl, P4, Q4, T4⟩
    simp [results, Tryz.results44, go_sem]
end Go.Proofs.YtdhhcefmmojcmaaGreatDoor
