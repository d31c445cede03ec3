/- A parser of patterns: a row; conditions: the contract of alternatives. -/
import Derived.Test.YtdhhcefmmojcmaaGreatDoorM33
namespace Go.Proofs.YtdhhcefmmojcmaaGreatDoor
open Go.RowKit
open Go.Lib

theorem info28n : (Tryz.prog.info? 28).map (fun i => (i.zero, i.size, i.bytes)) = some (some (.agg Cel.zero.arr), 9, 112) := by kernel_rfl
theorem quant_err {R : List Int} {u : Bool} {k : Nat} {e : Nat × Nat} (h : quantF R u k = .error e) : e = (23, k) ∧ ∃ p, boundF R k = some p := by
  unfold quantF at h
  split at h
  · cases h
  · rename_i hb
    split at h
    · cases h
      exact ⟨rfl, _, hb⟩
    · split at h
      · cases h
      · cases h
theorem quant_none {R : List Int} {u : Bool} {k : Nat} (h : quantF R u k = .ok none) : boundF R k = none := by
  unfold quantF at h
  split at h
  · assumption
  · split at h
    · cases h
    · split at h
      · cases h
      · cases h
theorem quant_some {R : List Int} {u : Bool} {k : Nat} {p : Int × Int × Bool × Nat} (h : quantF R u k = .ok (some p)) : ∃ p, boundF R k = some p := by
  unfold quantF at h
  split at h
  · cases h
  · rename_i hb
    exact ⟨_, hb⟩
theorem cel_ones (c : Cel) : ∀ u ∈ c.list, u.oneCell' = true := by
  intro u hu
  have := Cel.one c
  exact (Array.all_eq_true_iff_forall_mem.1 this) u (by simpa [Cel.arr, Cel.list] using hu)
/-- What a row's loop is at. -/
def RowR (b : Nat) (X : Px) (op : Nat) (sub : Option Sub) (w0 : World) (vn : Value) (q : Nat) (Z : PR (List Nd × St)) (n : Nat) (v3 : Value) (wr : World) : Prop :=
  ∃ (st : St) (l : List Nd) (cs : List Cel) (vn' : Value), X.R.length + 1 ≤ st.k + n ∧ Hid (st.k ≤ X.R.length) ∧ Hid (rowF X.R tableN sub n st l = Z) ∧ Hid (st.ns.length ≤ st.k + 1) ∧ Hid (l.length ≤ st.k) ∧ Hid (PS wr b X st.k st.f vn' st.ns op) ∧ Hid (PcL (q + 1) wr v3 cs l) ∧
    Hid (vn'.ownBlock = vn.ownBlock ∨ ∃ g, vn'.ownBlock = some g ∧ w0.heap.size ≤ g) ∧ Hid (wr.heap[q]? = some (.cells Cel.zero.arr 28 (0, 0))) ∧ Hid (Touch (fun g => g = b ∨ vn.ownBlock = some g) w0 wr)
set_option maxRecDepth 100000 in
set_option maxHeartbeats 8000000 in
theorem row_any (b : Nat) (X : Px) (k : Nat) (f : Fl) (vn : Value) (ns : List ByteArray) (op : Nat) (sub : Option Sub) (w : World) (h : PS w b X k f vn ns op) (hX : X.Good) (hk : k ≤ X.R.length) (hN : ns.length ≤ k + 1) (hs : SubS b X op sub) :
    Calls Tryz.prog 68 #[.pointer (some ⟨b, 0, none⟩)] w fun e w' => NodP b X vn op (fun _ => False) w (catF X.R tableN sub ⟨k, f, ns⟩) e w' := by
  obtain ⟨i0, hi28, hz0, hz1, hz2⟩ := info_parts info28n
  obtain ⟨A, hA⟩ : ∃ A, A = catF X.R tableN sub ⟨k, f, ns⟩ := ⟨_, rfl⟩
  have HA := hid hA.symm
  rw [← hA]
  unfold catF at HA
  clear hA
  obtain ⟨Z, hZ⟩ : ∃ Z, Z = rowF X.R tableN sub (X.R.length + 1) ⟨k, f, ns⟩ [] := ⟨_, rfl⟩
  rw [← hZ] at HA
  have HZ := hid hZ.symm
  clear hZ
  have TA := hid ((Touch.refl (fun _ => False) w).alloc (.cells Cel.zero.arr 28))
  have QB := hid (block_new w Cel.zero.arr 28)
  have HP := hid (h.new ((Touch.refl (fun _ => False) w).alloc (.cells Cel.zero.arr 28)))
  have hlt := h.lt
  have HX := hid hX
  have HLEN := hid hX.lenR
  have HLP := hid hX.lenP
  have HS := hid hs
  have HKK := hid hk
  have HNN := hid hN
  clear h hX hk hN hs
  go_enter Tryz.func68, Tryz.ntmps68
  go_upto_region 1 with fail
  unfold Cel.zero Cel.arr at TA QB HP
  generalize w.alloc (.cells _ 28) = w1 at *
  obtain ⟨q, hq⟩ : ∃ q, q = w.heap.size := ⟨_, rfl⟩
  have HQ := hid (show w.heap.size ≤ q ∧ b < q by omega)
  rw [← hq] at QB ⊢
  clear hq hlt
  go_wp2_with fail
  go_loopg [3] (X.R.length + 1) (fun gk v3 wq => RowR b X op sub w vn q Z gk v3 wq)
  case atStart => exact ⟨⟨k, f, ns⟩, [], [], vn, by simp only; omega, HKK, HZ, HNN, hid (Nat.zero_le _), HP, hid (PcL.nil _ _), hid (.inl rfl), hid QB.out, hid (TA.out.mono (fun _ _ e => e.elim))⟩
  case round =>
    clear HP QB TA HZ HKK HNN
    obtain ⟨⟨k, f, ns⟩, l, cs, vn', hgk, HK, HZ, HN, HL, HP, PC, HV, QB, TT⟩ := hrel
    simp only at hgk HK HZ HN HL HP
    obtain ⟨gk, rfl⟩ : ∃ g, gk = g + 1 := ⟨gk - 1, by have := HK.out; omega⟩
    rw [rowF] at HZ
    simp only at HZ
    obtain ⟨a3, c3, hv3⟩ := own_shape PC.out.own
    subst hv3
    have hk2 : k ≤ 1024 := by have := HLEN.out; have := HK.out; omega
    by_cases he : endR (lkR X.R k) = true
    · rw [if_pos he] at HZ
      have KR := hid (rowEnds_any b X k f vn' ns op wr HP.out (by omega))
      rw [he] at KR
      go_wp2_with fail
      refine KR.out.mono ?_
      rintro e w2 ⟨rfl, t2⟩
      replace HP := hid (HP.out.new t2)
      replace PC := hid (PC.out.still t2)
      replace QB := hid ((t2.block q (lt_of_block QB.out) id).trans QB.out)
      replace TT := hid (TT.out.trans t2 (fun _ _ e => e.elim))
      clear t2 KR
      have K7 := hid (PC.out.all 8)
      go_wp2_with fail
      refine K7.out.mono ?_
      rintro e w3 ⟨c, rfl, ht, t3⟩
      have HT := hid ht
      replace HP := hid (HP.out.new t3)
      replace QB := hid ((t3.block q (lt_of_block QB.out) id).trans QB.out)
      replace TT := hid (TT.out.trans t3 (fun _ _ e => e.elim))
      clear ht t3 K7 PC
      obtain ⟨ck, sa, sn, sc, fo, mi, ma, la, ca, nm, ka, kn, kc⟩ := c
      unfold Cel.arr
      go_wp2_with (first | refine wpList_store_row rfl 28 _ _ rfl q _ rfl rfl 28 _ QB.out info28 (by rfl) (Cel.one ⟨ck, sa, sn, sc, fo, mi, ma, la, ca, nm, ka, kn, kc⟩) ?_ | fail)
      refine bodyPost_ret (results_c rfl _ _ q 28 _ (0, 0) _ rfl (setRow_heap _ q _ _ 28 (0, 0) QB.out) Tryz.underlying28 rfl (by kernel_rfl)) rfl ?_
      rw [← HA.out, ← HZ.out]
      have TR := touch_row w3 q #[.int .i64 ck, .slice sa sn sc, .bool fo, .int .i64 mi, .int .i64 ma, .bool la, .int .i64 ca, .string nm, .slice ka kn kc]
      refine ⟨⟨ck, sa, sn, sc, fo, mi, ma, la, ca, nm, ka, kn, kc⟩, vn', rfl, ?_, HP.out.row HQ.out.2 QB.out, HV.out, TT.out.trans TR (fun i hi e => by have := HQ.out; omega)⟩
      exact (HT.out.kept TR (fun g hg s => by omega)).more (fun g hg => .inr ⟨by have := HQ.out; omega, Nat.lt_of_lt_of_le hg.2 TR.size⟩)
    · rw [if_neg he] at HZ
      have hlt : k < X.R.length := lk_lt (fun e => he (by rw [e]; rfl))
      have KR := hid (rowEnds_any b X k f vn' ns op wr HP.out (by omega))
      rw [show endR (lkR X.R k) = false from by simpa using he] at KR
      have KQ := hid (fun w' hp => quant_any b X k f vn' ns op w' hp HX.out (by omega))
      have KW := hid (fun (k1 : Nat) w' (hp : PS w' b X k1 f vn' ns op) => wrong_any b X k1 f vn' ns op 23 k w' hp (by have := HLP.out; omega))
      have KA := hid (fun w' hp => atom_any b X k f vn' ns op sub w' hp HX.out hlt HN.out HS.out)
      have HQE := hid (fun e => quant_err (R := X.R) (u := f.u) (k := k) (e := e))
      have HQN := hid (quant_none (R := X.R) (u := f.u) (k := k))
      have HQS := hid (fun p => quant_some (R := X.R) (u := f.u) (k := k) (p := p))
      unfold pieceF at HZ
      simp only at HZ
      go_wp2_with fail
      refine KR.out.mono ?_
      rintro e w2 ⟨rfl, t2⟩
      replace HP := hid (HP.out.new t2)
      replace PC := hid (PC.out.still t2)
      replace QB := hid ((t2.block q (lt_of_block QB.out) id).trans QB.out)
      replace TT := hid (TT.out.trans t2 (fun _ _ e => e.elim))
      clear t2 KR he
      have c5 := HP.out.c5
      have KQ2 := hid (KQ.out _ HP.out)
      clear KQ
      generalize quantF X.R f.u k = Q at *
      match Q with
      | .error e =>
        obtain ⟨rfl, p, hp⟩ := HQE.out e rfl
        rw [hp] at HZ
        simp only at HZ
        unfold QntP thrown at KQ2
        simp only at KQ2
        go_wp2_with fail
        refine KQ2.out.mono ?_
        rintro e w3 ⟨rfl, t3⟩
        replace TT := hid (TT.out.trans t3 (fun _ _ e => .inl e))
        clear t3 KQ2 KW KA HQE HQN HQS hp
        go_wp2
        refine ⟨rfl, ?_⟩
        rw [← HA.out, ← HZ.out]
        exact ⟨rfl, TT.out⟩
      | .ok (some (x, y, z, k1)) =>
        obtain ⟨p, hp⟩ := HQS.out _ rfl
        rw [hp] at HZ
        simp only at HZ
        unfold QntP at KQ2
        simp only at KQ2
        go_wp2_with fail
        refine KQ2.out.mono ?_
        rintro e w3 ⟨rfl, hp3, t3⟩
        have HP3 := hid hp3
        replace TT := hid (TT.out.trans t3 (fun _ _ e => .inl e))
        clear t3 KQ2 KA HQE HQN HQS hp hp3 HP
        go_upto_region 5 with (first | refine wpList_store_row rfl 28 _ _ rfl w3.heap.size _ rfl rfl 28 _ (block_new w3 _ 28) info28 (by rfl) (Cel.one (repC x y z)) ?_ | fail)
        have TB := hid (((Touch.refl (fun _ => False) w3).alloc (.cells #[.int .i64 0, .slice none 0 0, .bool false, .int .i64 0, .int .i64 0, .bool false, .int .i64 0, .string ⟨#[]⟩, .slice none 0 0] 28)).trans (touch_row (w3.alloc (.cells #[.int .i64 0, .slice none 0 0, .bool false, .int .i64 0, .int .i64 0, .bool false, .int .i64 0, .string ⟨#[]⟩, .slice none 0 0] 28)) w3.heap.size (repC x y z).arr) (fun i hi e => by omega))
        generalize (w3.alloc (.cells #[.int .i64 0, .slice none 0 0, .bool false, .int .i64 0, .int .i64 0, .bool false, .int .i64 0, .string ⟨#[]⟩, .slice none 0 0] 28)).setRow w3.heap.size (repC x y z).arr = w4 at *
        have HP4 := hid (HP3.out.new TB.out)
        replace TT := hid (TT.out.trans TB.out (fun _ _ e => e.elim))
        clear TB HP3
        have KW2 := hid (KW.out k1 w4 HP4.out)
        go_wp2_with fail
        refine KW2.out.mono ?_
        rintro e w5 ⟨rfl, t5⟩
        replace TT := hid (TT.out.trans t5 (fun _ _ e => e.elim))
        clear t5 KW2 KW
        go_wp2
        refine ⟨rfl, ?_⟩
        rw [← HA.out, ← HZ.out]
        exact ⟨rfl, TT.out⟩
      | .ok none =>
        rw [HQN.out rfl] at HZ
        simp only at HZ
        unfold QntP at KQ2
        simp only at KQ2
        clear HQE HQN HQS KW
        go_wp2_with fail
        refine KQ2.out.mono ?_
        rintro e w3 ⟨rfl, hp3, t3⟩
        replace QB := hid ((t3.block q (lt_of_block QB.out) (fun e => by have := HQ.out; omega)).trans QB.out)
        replace PC := hid (PC.out.kept t3 (fun g e => HP.out.nt (.inl e)))
        replace HP := hid hp3
        replace TT := hid (TT.out.trans t3 (fun _ _ e => .inl e))
        clear t3 KQ2 hp3 c5
        go_upto_region 5 with (first | refine wpList_store_row rfl 28 _ _ rfl w3.heap.size _ rfl rfl 28 _ (block_new w3 _ 28) info28 (by rfl) (Cel.one Cel.zero) ?_ | fail)
        have TB := hid (((Touch.refl (fun _ => False) w3).alloc (.cells #[.int .i64 0, .slice none 0 0, .bool false, .int .i64 0, .int .i64 0, .bool false, .int .i64 0, .string ⟨#[]⟩, .slice none 0 0] 28)).trans (touch_row (w3.alloc (.cells #[.int .i64 0, .slice none 0 0, .bool false, .int .i64 0, .int .i64 0, .bool false, .int .i64 0, .string ⟨#[]⟩, .slice none 0 0] 28)) w3.heap.size Cel.zero.arr) (fun i hi e => by omega))
        generalize (w3.alloc (.cells #[.int .i64 0, .slice none 0 0, .bool false, .int .i64 0, .int .i64 0, .bool false, .int .i64 0, .string ⟨#[]⟩, .slice none 0 0] 28)).setRow w3.heap.size Cel.zero.arr = w4 at *
        replace HP := hid (HP.out.new TB.out)
        replace PC := hid (PC.out.still TB.out)
        replace QB := hid ((TB.out.block q (lt_of_block QB.out) id).trans QB.out)
        replace TT := hid (TT.out.trans TB.out (fun _ _ e => e.elim))
        clear TB
        have KA2 := hid (KA.out _ HP.out)
        have HAF := hid (fun o s => atom_fwd (R := X.R) (tab := tableN) (st := ⟨k, f, ns⟩) (s1 := s) (o := o) HS.out.fwd hlt)
        have HAG := hid (fun o s => atom_grw (R := X.R) (tab := tableN) (st := ⟨k, f, ns⟩) (s1 := s) (o := o) HS.out.fwd HS.out.grw hlt)
        clear KA
        generalize atomF X.R tableN sub ⟨k, f, ns⟩ = M at *
        match M with
        | .error (ec, ej) =>
          simp only at HZ
          unfold OptP thrown at KA2
          simp only at KA2
          clear HAF HAG
          go_wp2_with fail
          refine KA2.out.mono ?_
          rintro e w5 ⟨rfl, t5⟩
          replace TT := hid (TT.out.trans t5 (fun i hi e => by
            rcases e with e | e
            · exact .inl e
            · rcases HV.out with e2 | ⟨g, e2, hg⟩
              · exact .inr (by rw [← e2]; exact e)
              · rw [e2] at e; cases e; omega))
          clear t5 KA2
          go_wp2
          refine ⟨rfl, ?_⟩
          rw [← HA.out, ← HZ.out]
          exact ⟨rfl, TT.out⟩
        | .ok (none, ⟨k1, f1, ns1⟩) =>
          simp only at HZ
          unfold OptP at KA2
          simp only at KA2
          have HF := hid (HAF.out _ _ rfl)
          have HG := hid (HAG.out _ _ rfl)
          clear HAF HAG
          go_wp2_with fail
          refine KA2.out.mono ?_
          rintro e w5 ⟨c, vn2, rfl, hp5, hn5, t5⟩
          have HS4 := hid TT.out.size
          replace TT := hid (TT.out.trans t5 (fun i hi e => by
            rcases e with e | e
            · exact .inl e
            · rcases HV.out with e2 | ⟨g, e2, hg⟩
              · exact .inr (by rw [← e2]; exact e)
              · rw [e2] at e; cases e; omega))
          replace HV := hid (show vn2.ownBlock = vn.ownBlock ∨ ∃ g, vn2.ownBlock = some g ∧ w.heap.size ≤ g from by
            rcases hn5 with e | ⟨g, e, hg⟩
            · rw [e]; exact HV.out
            · exact .inr ⟨g, e, Nat.le_trans HS4.out hg⟩)
          replace QB := hid ((t5.block q (lt_of_block QB.out) (fun e => by
            rcases e with e | e
            · have := HQ.out; omega
            · exact HP.out.notN QB.out (by decide) e)).trans QB.out)
          replace PC := hid (PC.out.kept t5 (fun g e => HP.out.nt e))
          replace HP := hid hp5
          clear t5 KA2 hp5 hn5 HS4
          obtain ⟨ck, sa, sn, sc, fo, mi, ma, la, ca, nm, ka, kn, kc⟩ := c
          unfold Cel.arr
          go_upto_region 8 with (first | refine wpList_store_row rfl 28 _ _ rfl w5.heap.size _ rfl rfl 28 _ (block_new w5 _ 28) info28 (by rfl) (Cel.one ⟨ck, sa, sn, sc, fo, mi, ma, la, ca, nm, ka, kn, kc⟩) ?_ | fail)
          have TB := hid (((Touch.refl (fun _ => False) w5).alloc (.cells #[.int .i64 0, .slice none 0 0, .bool false, .int .i64 0, .int .i64 0, .bool false, .int .i64 0, .string ⟨#[]⟩, .slice none 0 0] 28)).trans (touch_row (w5.alloc (.cells #[.int .i64 0, .slice none 0 0, .bool false, .int .i64 0, .int .i64 0, .bool false, .int .i64 0, .string ⟨#[]⟩, .slice none 0 0] 28)) w5.heap.size #[.int .i64 ck, .slice sa sn sc, .bool fo, .int .i64 mi, .int .i64 ma, .bool la, .int .i64 ca, .string nm, .slice ka kn kc]) (fun i hi e => by omega))
          generalize (w5.alloc (.cells #[.int .i64 0, .slice none 0 0, .bool false, .int .i64 0, .int .i64 0, .bool false, .int .i64 0, .string ⟨#[]⟩, .slice none 0 0] 28)).setRow w5.heap.size #[.int .i64 ck, .slice sa sn sc, .bool fo, .int .i64 mi, .int .i64 ma, .bool la, .int .i64 ca, .string nm, .slice ka kn kc] = w6 at *
          replace HP := hid (HP.out.new TB.out)
          replace PC := hid (PC.out.still TB.out)
          replace QB := hid ((TB.out.block q (lt_of_block QB.out) id).trans QB.out)
          replace TT := hid (TT.out.trans TB.out (fun _ _ e => e.elim))
          clear TB
          go_wp2
          go_roundg gk
          case measure => omega
          case rel => exact ⟨⟨k1, f1, ns1⟩, l, cs, vn2, by have := HF.out; simp only at this ⊢; omega, hid HF.out.2, HZ, hid (by have := HF.out; have := HG.out; have := HN.out; simp only at *; omega), hid (by have := HF.out; have := HL.out; simp only at *; omega), HP, PC, HV, QB, TT⟩
        | .ok (some x, ⟨k1, f1, ns1⟩) =>
          simp only at HZ
          unfold OptP at KA2
          simp only at KA2
          have HF := hid (HAF.out _ _ rfl)
          have HG := hid (HAG.out _ _ rfl)
          clear HAF HAG
          go_wp2_with fail
          refine KA2.out.mono ?_
          rintro e w5 ⟨c, vn2, rfl, ht5, hp5, hn5, t5⟩
          have HS4 := hid TT.out.size
          have HQ4 := hid (lt_of_block QB.out)
          have HPL := hid (fun g e => PC.out.lt (g := g) e)
          have HS45 := hid t5.size
          replace TT := hid (TT.out.trans t5 (fun i hi e => by
            rcases e with e | e
            · exact .inl e
            · rcases HV.out with e2 | ⟨g, e2, hg⟩
              · exact .inr (by rw [← e2]; exact e)
              · rw [e2] at e; cases e; omega))
          replace HV := hid (show vn2.ownBlock = vn.ownBlock ∨ ∃ g, vn2.ownBlock = some g ∧ w.heap.size ≤ g from by
            rcases hn5 with e | ⟨g, e, hg⟩
            · rw [e]; exact HV.out
            · exact .inr ⟨g, e, Nat.le_trans HS4.out hg⟩)
          replace QB := hid ((t5.block q (lt_of_block QB.out) (fun e => by
            rcases e with e | e
            · have := HQ.out; omega
            · exact HP.out.notN QB.out (by decide) e)).trans QB.out)
          replace PC := hid (PC.out.kept t5 (fun g e => HP.out.nt e))
          replace HP := hid hp5
          have HT := hid (ht5.more (B' := fun g => w4.heap.size ≤ g ∧ g < w5.heap.size) (fun g e => e.elim False.elim id))
          clear t5 KA2 hp5 hn5 ht5
          obtain ⟨ck, sa, sn, sc, fo, mi, ma, la, ca, nm, ka, kn, kc⟩ := c
          unfold Cel.arr
          go_upto_region 8 with (first | refine wpList_store_row rfl 28 _ _ rfl w5.heap.size _ rfl rfl 28 _ (block_new w5 _ 28) info28 (by rfl) (Cel.one ⟨ck, sa, sn, sc, fo, mi, ma, la, ca, nm, ka, kn, kc⟩) ?_ | fail)
          have TB := hid (((Touch.refl (fun _ => False) w5).alloc (.cells #[.int .i64 0, .slice none 0 0, .bool false, .int .i64 0, .int .i64 0, .bool false, .int .i64 0, .string ⟨#[]⟩, .slice none 0 0] 28)).trans (touch_row (w5.alloc (.cells #[.int .i64 0, .slice none 0 0, .bool false, .int .i64 0, .int .i64 0, .bool false, .int .i64 0, .string ⟨#[]⟩, .slice none 0 0] 28)) w5.heap.size #[.int .i64 ck, .slice sa sn sc, .bool fo, .int .i64 mi, .int .i64 ma, .bool la, .int .i64 ca, .string nm, .slice ka kn kc]) (fun i hi e => by omega))
          have RA := hid (setRow_heap (w5.alloc (.cells #[.int .i64 0, .slice none 0 0, .bool false, .int .i64 0, .int .i64 0, .bool false, .int .i64 0, .string ⟨#[]⟩, .slice none 0 0] 28)) w5.heap.size _ #[.int .i64 ck, .slice sa sn sc, .bool fo, .int .i64 mi, .int .i64 ma, .bool la, .int .i64 ca, .string nm, .slice ka kn kc] 28 (0, 0) (block_new w5 _ 28))
          generalize (w5.alloc (.cells #[.int .i64 0, .slice none 0 0, .bool false, .int .i64 0, .int .i64 0, .bool false, .int .i64 0, .string ⟨#[]⟩, .slice none 0 0] 28)).setRow w5.heap.size #[.int .i64 ck, .slice sa sn sc, .bool fo, .int .i64 mi, .int .i64 ma, .bool la, .int .i64 ca, .string nm, .slice ka kn kc] = w6 at *
          obtain ⟨q7, hq7⟩ : ∃ q7, q7 = w5.heap.size := ⟨_, rfl⟩
          rw [← hq7] at RA ⊢
          clear hq7
          replace HP := hid (HP.out.new TB.out)
          replace PC := hid (PC.out.still TB.out)
          replace QB := hid ((TB.out.block q (lt_of_block QB.out) id).trans QB.out)
          replace TT := hid (TT.out.trans TB.out (fun _ _ e => e.elim))
          replace HT := hid (HT.out.new TB.out)
          have HS46 := hid (Nat.le_trans HS45.out TB.out.size)
          have HB6 := hid (show ∀ g, w4.heap.size ≤ g ∧ g < w5.heap.size → g < w6.heap.size from fun g e => Nat.lt_of_lt_of_le e.2 TB.out.size)
          clear TB HS45
          have KR := hid (repeat_any b X k1 f1 vn2 ns1 op ⟨ck, sa, sn, sc, fo, mi, ma, la, ca, nm, ka, kn, kc⟩ x (fun g => w4.heap.size ≤ g ∧ g < w5.heap.size) w6 HP.out HX.out HF.out.2 HT.out HB6.out)
          have HRF := hid (fun y s => rep_fwd (R := X.R) (x := x) (st := ⟨k1, f1, ns1⟩) (y := y) (s1 := s) HF.out.2)
          have HRN := hid (fun y s => rep_ns (R := X.R) (x := x) (st := ⟨k1, f1, ns1⟩) (y := y) (s1 := s))
          unfold Cel.arr at KR
          generalize repF X.R x ⟨k1, f1, ns1⟩ = V at *
          match V with
          | .error (ec, ej) =>
            simp only at HZ
            unfold NodP thrown at KR
            simp only at KR
            clear HRF HRN
            go_wp2_with (first | refine wpList_load_row rfl 28 _ rfl q7 rfl 28 _ (0, 0) _ RA.out Tryz.underlying28 rfl info28 ?_ | fail)
            refine KR.out.mono ?_
            rintro e w7 ⟨rfl, t7⟩
            replace TT := hid (TT.out.trans t7 (fun i hi e => by
              rcases e with e | e
              · exact .inl e
              · rcases HV.out with e2 | ⟨g, e2, hg⟩
                · exact .inr (by rw [← e2]; exact e)
                · rw [e2] at e; cases e; omega))
            clear t7 KR
            go_wp2
            refine ⟨rfl, ?_⟩
            rw [← HA.out, ← HZ.out]
            exact ⟨rfl, TT.out⟩
          | .ok (y, ⟨k2, f2, ns2⟩) =>
            simp only at HZ
            unfold NodP at KR
            simp only at KR
            have HF2 := hid (HRF.out _ _ rfl)
            have HN2 := hid (HRN.out _ _ rfl)
            clear HRF HRN
            go_wp2_with (first | refine wpList_load_row rfl 28 _ rfl q7 rfl 28 _ (0, 0) _ RA.out Tryz.underlying28 rfl info28 ?_ | fail)
            refine KR.out.mono ?_
            rintro e w7 ⟨c2, vn3, rfl, ht7, hp7, hn7, t7⟩
            have HS6 := hid TT.out.size
            replace TT := hid (TT.out.trans t7 (fun i hi e => by
              rcases e with e | e
              · exact .inl e
              · rcases HV.out with e2 | ⟨g, e2, hg⟩
                · exact .inr (by rw [← e2]; exact e)
                · rw [e2] at e; cases e; omega))
            replace HV := hid (show vn3.ownBlock = vn.ownBlock ∨ ∃ g, vn3.ownBlock = some g ∧ w.heap.size ≤ g from by
              rcases hn7 with e | ⟨g, e, hg⟩
              · rw [e]; exact HV.out
              · exact .inr ⟨g, e, Nat.le_trans HS6.out hg⟩)
            replace QB := hid ((t7.block q (lt_of_block QB.out) (fun e => by
              rcases e with e | e
              · have := HQ.out; omega
              · exact HP.out.notN QB.out (by decide) e)).trans QB.out)
            replace PC := hid (PC.out.kept t7 (fun g e => HP.out.nt e))
            replace HP := hid hp7
            have HX7 := hid ht7
            have HB7 := hid (show ∀ g, ((w4.heap.size ≤ g ∧ g < w5.heap.size) ∨ (w6.heap.size ≤ g ∧ g < w7.heap.size)) → ((q + 1 ≤ g ∧ g < w7.heap.size) ∧ (Value.slice a3 cs.length c3).ownBlock ≠ some g) from fun g e => by
              have h1 := HQ4.out
              have h2 := t7.size
              have h3 : w4.heap.size ≤ g ∧ g < w7.heap.size := by
                rcases e with e | e
                · exact ⟨e.1, Nat.lt_of_lt_of_le (HB6.out g e) h2⟩
                · exact ⟨by have := HB6.out; have := lt_of_block RA.out; have := HS46.out; omega, e.2⟩
              exact ⟨⟨by omega, h3.2⟩, fun e2 => by have := HPL.out g e2; omega⟩)
            have HLO := hid (show q + 1 ≤ w7.heap.size from lt_of_block QB.out)
            have hnb : cs.length ≤ 1024 := by have := PC.out.len; have := HL.out; omega
            clear t7 KR hp7 hn7 ht7 HT HB6 HPL HQ4 HS4 HS6 RA HS46
            obtain ⟨dk, ta, tn, tc, go, ni, na, ma2, da, om, la2, ln, lc⟩ := c2
            unfold Cel.arr
            go_wp2_with (at_builtin; refine wpList_append_own_at _ rfl _ _ 26 rfl 0 28 i0 (.agg Cel.zero.arr) 9 112 Tryz.underlying26 hi28 hz0 hz1 hz2 rfl (by decide) _ _ _ rfl (PC.out.own.alloc _) ⟨w7.heap.size, 0, none⟩ 1 1 (Cel.list ⟨dk, ta, tn, tc, go, ni, na, ma2, da, om, la2, ln, lc⟩) rfl rfl (row_new w7 (Cel.list ⟨dk, ta, tn, tc, go, ni, na, ma2, da, om, la2, ln, lc⟩) 28) (cel_ones ⟨dk, ta, tn, tc, go, ni, na, ma2, da, om, la2, ln, lc⟩) (by unfold maxLen; omega) (by omega) (Nat.zero_le _) ?_)
            intro v' w9 hown hgrow _ hat
            have PX := PC.out.push HX7.out HB7.out HLO.out hown hgrow (by simpa using hat)
            have PC9 := hid PX.1
            have HP9 := hid (HP.out.far PX.2 (fun g e => ⟨by have := PC.out.new g e; have := HQ.out; omega, fun cs2 fr hh => by
              obtain ⟨cs3, fr3, hh3⟩ := own_type PC.out.own g e
              rw [hh3] at hh
              cases hh⟩))
            have QB9 := hid ((PX.2.block q (lt_of_block QB.out) (fun e => by have := PC.out.new q e; omega)).trans QB.out)
            have TT9 := hid (TT.out.trans PX.2 (fun i hi e => by have := PC.out.new i e; have := HQ.out; omega))
            clear PX hown hgrow hat PC HP QB TT HX7 HB7 HLO
            go_wp2
            go_roundg gk
            case measure => omega
            case rel => exact ⟨⟨k2, f2, ns2⟩, l ++ [y], _, vn3, by have := HF.out; have := HF2.out; simp only at *; omega, hid HF2.out.2, HZ, hid (by have := HF.out; have := HF2.out; have := HG.out; have := HN.out; have := HN2.out; simp only at *; subst this; omega), hid (by have := HF.out; have := HF2.out; have := HL.out; rw [List.length_append]; simp only [List.length_singleton] at *; omega), HP9, PC9, HV, QB9, TT9⟩
end Go.Proofs.YtdhhcefmmojcmaaGreatDoor
