/- Show of an object; conditions: as told. -/
import Derived.Test.YtabhlhgfacpohaaDoorXa
namespace Go.Proofs.YtabhlhgfacpohaaDoor
open Go.RowKit
open Go.Lib

set_option maxRecDepth 100000 in
set_option maxHeartbeats 8000000 in
theorem showKids_6 (a2 a3 : Option Addr) (n2 c2 n3 c3 : Nat) (ks : List ByteArray) (cs : List Cel) (xs : List JV) (B : Nat → Prop) (l : Bs) (v : Value) (w : World) (h2 : SL w (.slice a2 n2 c2) ks) (h3 : CL w (.slice a3 n3 c3) cs) (hlx : cs.length = xs.length) (hkk : ∀ (i : Nat) (c : Cel) (x : JV), cs[i]? = some c → xs[i]? = some x → TV w B c x) (ht : Tabs w) (ho : OB w v l) (hv : ∀ k, v.ownBlock = some k → 2 ≤ k)
    (hk : ks.length = xs.length) (s2 : ∀ x ∈ ks, x.size ≤ 1048576) (hlen : l.length + (jnB 6 ks (shBs xs) xs.length).length + 2 ≤ 1000000000) (KS0 : ∀ x ∈ xs, ShowC x) :
    Calls Tryd.prog 35 #[.agg #[.int .i64 6, .string ⟨#[]⟩, .slice a2 n2 c2, .slice a3 n3 c3], v, .string ⟨#[123, 125]⟩] w fun e w' => ∃ v', e = .returned v' ∧ Grew w w' v v' (l ++ (123 :: (jnB 6 ks (shBs xs) xs.length ++ [125]))) := by
  obtain ⟨i0, hi5, hz0, hz1, hz2⟩ := info_parts info5b
  have hlen3 := h3.len
  have TA := (Touch.refl (fun _ => False) w).alloc (.cells #[.int .i64 6, .string ⟨#[]⟩, .slice a2 n2 c2, .slice a3 n3 c3] 26)
  have S0 := hid (show SW (w.alloc (.cells #[.int .i64 6, .string ⟨#[]⟩, .slice a2 n2 c2, .slice a3 n3 c3] 26)) w.heap.size 6 (.slice a2 n2 c2) (.slice a3 n3 c3) ks cs xs B from ⟨jfour_new _ _ _ _ _, rowKept h2 TA (fun _ _ e => e), rowKept h3 TA (fun _ _ e => e), fun i c x e1 e2 => (hkk i c x e1 e2).new TA, ht.new TA⟩)
  have O0 := hid (ho.kept TA (fun _ _ e => e))
  have T0 := hid TA
  have HV := hid hv
  have KSH := hid KS0
  have HMX := hid (own_max h3)
  have hnm : n3 ≤ 9223372036854775807 := by rw [hlen3]; exact own_max h3
  have G2 := hid (fun i => getD_size s2 i)
  have HKL := hid hk
  clear s2 hk
  have HN3 := hid hlen3
  have HLX := hid hlx
  have HLN := hid hlen
  have HW2 := hid (Nat.le_trans ht.two TA.size)
  clear h2 h3 ht ho hv TA hkk KS0 hlx
  obtain ⟨av, cv, N, hvv, hN, _⟩ := OB.named O0.out
  subst hvv
  obtain ⟨BR, hBR⟩ : ∃ BR : ByteArray, BR = ⟨#[123, 125]⟩ := ⟨_, rfl⟩
  have ix0 : ∀ w, (Instr.index 9 (.string BR) (.int .i64 0)).run Tryd.prog w = .ok (.int .u8 123) w := fun w => by rw [hBR]; rfl
  have ix1 : ∀ w, (Instr.index 9 (.string BR) (.int .i64 1)).run Tryd.prog w = .ok (.int .u8 125) w := fun w => by rw [hBR]; rfl
  rw [← hBR]
  clear hBR
  have hNb : N ≤ 1000000000 := by omega
  have HN := hid hN
  clear hN hlen3 hlen
  go_enter Tryd.func35, Tryd.ntmps35
  go_upto_region 1 with fail
  generalize w.alloc (.cells #[.int .i64 6, .string ⟨#[]⟩, .slice a2 n2 c2, .slice a3 n3 c3] 26) = w1 at *
  generalize w.heap.size = q at *
  have OW1 := hid (show w1.ownsRow 0 5 1 (.slice av N cv) N (bv l) from by have := O0.out; unfold OB at this; rw [HN.out] at this; exact this)
  go_wp2_with (at_builtin; (refine wpList_append_own_at _ rfl _ _ 53 rfl 0 5 i0 (.int .u8 0) 1 1 Tryd.underlying53 hi5 hz0 hz1 hz2 rfl (by decide) _ _ _ rfl (OW1.out.alloc _) ⟨w1.heap.size, 0, none⟩ 1 1 [.int .u8 123] rfl rfl (row_new w1 [.int .u8 123] 5) (by intro u hu; simp at hu; subst hu; rfl) (by unfold maxLen; omega) (by omega) (Nat.zero_le _) ?_))
  intro v1 w2 hown hgrow _ hat
  have G1 := hid (grew_of (m := [123]) (l := l) (by rw [HN.out]; exact hown) hgrow hat)
  have S1 := hid (S0.out.grew O0.out G1.out HV.out)
  have V1 := hid (two_le G1.out HV.out HW2.out)
  clear hown hgrow hat OW1 S0
  obtain ⟨⟨_, _, _, z3⟩, _⟩ := cells4 S1.out.obj
  go_wp2_with fail
  clear z3
  have GS := hid (show Grew w2 w2 v1 v1 ((l ++ [123]) ++ jnB 6 ks (shBs xs) 0) from by
    have := Grew.refl G1.out.own
    simpa [jnB] using this)
  go_loopg [1, 17] n3 (fun gk v0 v17 wq => ∃ (k : Nat) (av : Option Addr) (N cv : Nat), v0 = .slice av N cv ∧ k + gk = n3 ∧ v17 = .int .i64 (k : Nat) ∧ N ≤ 1000000000 ∧ Hid (((l ++ [123]) ++ jnB 6 ks (shBs xs) k).length = N) ∧ Hid (Grew w2 wq v1 (.slice av N cv) ((l ++ [123]) ++ jnB 6 ks (shBs xs) k)) ∧ Hid (SW wq q 6 (.slice a2 n2 c2) (.slice a3 n3 c3) ks cs xs B) ∧ Hid (∀ k, (Value.slice av N cv).ownBlock = some k → 2 ≤ k))
  case atStart =>
    obtain ⟨a1, c1, N1, hv1, hN1, _⟩ := OB.named G1.out.own
    subst hv1
    have HL1 := HN.out
    have HL2 := HLN.out
    refine ⟨0, a1, N1, c1, rfl, by omega, rfl, by rw [List.length_append, List.length_singleton] at hN1; omega, hid ?_, GS, S1, V1⟩
    unfold jnB
    simpa using hN1
  case round =>
    obtain ⟨k, ak, Nk, ck, rfl, hkk, rfl, hNk, HNk, GK, SS, VK⟩ := hrel
    clear GS S1 V1
    by_cases hlt : k < n3
    · have hltI : (k : Int) < (n3 : Int) := by omega
      obtain ⟨kc, hkc⟩ : ∃ kc, cs[k]? = some kc := ⟨_, List.getElem?_eq_getElem (by have := HN3.out; omega)⟩
      obtain ⟨kx, hkx⟩ : ∃ kx, xs[k]? = some kx := ⟨_, List.getElem?_eq_getElem (by have := HN3.out; have := HLX.out; omega)⟩
      have TVK := hid (SS.out.trees k kc kx hkc hkx)
      obtain ⟨xk, xt, xa2, xn2, xc2, xa3, xn3, xc3, rfl⟩ := TVK.out.shape
      obtain ⟨g3, hg3, e0, e1, e2, e3⟩ := SS.out.kids.at k _ hkc
      dsimp only at e0 e1 e2 e3
      subst hg3
      have KSK := hid (KSH.out kx (List.mem_of_getElem? hkx))
      have HSB := hid (shBs_at hkx)
      have HTOT := hid (show (l ++ [123]).length + (jnB 6 ks (shBs xs) (k + 1)).length ≤ 999999999 from by
        have h1 := jnB_le 6 ks (shBs xs) (xs.length - (k + 1)) (k + 1)
        have h2 := HLN.out
        have h3 := HN3.out
        have h4 := HLX.out
        rw [show k + 1 + (xs.length - (k + 1)) = xs.length by omega] at h1
        rw [List.length_append, List.length_singleton]
        omega)
      clear hkc hkx
      obtain ⟨KY, hKY⟩ : ∃ KY, KY = ks.getD k ⟨#[]⟩ := ⟨_, rfl⟩
      have hKYs : KY.size ≤ 1048576 := by rw [hKY]; exact G2.out k
      have HKY := hid hKY
      clear hKY
      go_upto_region 5 with fail
      have TA := (Touch.refl (fun _ => False) wr).alloc (.cells #[.int .i64 xk, .string xt, .slice xa2 xn2 xc2, .slice xa3 xn3 xc3] 26)
      have S3 := hid (SS.out.new TA)
      have R3 := hid (jfour_new (w := wr) (.int .i64 xk) (.string xt) (.slice xa2 xn2 xc2) (.slice xa3 xn3 xc3) 26)
      have O3 := hid (GK.out.own.kept TA (fun _ _ e => e))
      have V3 := hid (TVK.out.new TA)
      have T3 := hid TA
      have HS3 := hid S3.out.tabs.two
      obtain ⟨L, hL⟩ : ∃ L, L = (l ++ [123]) ++ jnB 6 ks (shBs xs) k := ⟨_, rfl⟩
      have HLL := hid hL
      rw [← hL] at HNk GK O3
      have HT2 := hid (show Nk + (pcB 6 ks (shBs xs) k).length ≤ 999999999 from by
        have h1 := HTOT.out
        rw [jnB_more] at h1
        have h2 := HNk.out
        rw [hL] at h2
        simp only [List.length_append, List.length_cons, List.length_nil] at h1 h2
        omega)
      clear TA e0 e1 e2 e3 hL SS TVK
      generalize wr.alloc (.cells #[.int .i64 xk, .string xt, .slice xa2 xn2 xc2, .slice xa3 xn3 xc3] 26) = w3 at *
      generalize wr.heap.size = r3 at *
      by_cases hk0 : k = 0
      · have hkI : ¬ (0 : Int) < (k : Int) := by omega
        have HK0 := hid hk0
        clear hk0
        have HPC := hid (show pcB 6 ks (shBs xs) k = [] ++ ((quB KY ++ [58]) ++ shB kx) from by
          unfold pcB
          rw [HSB.out, if_pos HK0.out, ← HKY.out]
          rfl)
        have G4 := hid (show Grew w3 w3 (.slice ak Nk ck) (.slice ak Nk ck) (L ++ []) from by simpa using Grew.refl O3.out)
        have w4e : w3 = w3 := rfl
        clear w4e
        have S4 := hid (S3.out.grew O3.out G4.out VK.out)
        have V4 := hid (two_le G4.out VK.out HS3.out)
        have R4 := hid (other_kept O3.out G4.out R3.out (by decide))
        have X4 := hid (V3.out.grew O3.out G4.out)
        have HL4 := hid (show (L ++ []).length + ((quB KY).length + 1 + (shB kx).length) ≤ 999999999 from by
          have h1 := HT2.out
          rw [HPC.out] at h1
          have h2 := HNk.out
          simp only [List.length_append, List.length_cons, List.length_nil] at h1 ⊢
          omega)
        obtain ⟨M4, hM4⟩ : ∃ M4, M4 = L ++ [] := ⟨_, rfl⟩
        rw [← hM4] at HL4 G4
        have HM4 := hid hM4
        clear hM4
        obtain ⟨⟨q0, q1, q2, q3⟩, _⟩ := cells4 S4.out.obj
        have KK := hid (key_any 6 ⟨#[]⟩ a2 (some ⟨g3, 0, none⟩) n2 c2 n3 c3 ks k w3 S4.out.keys (by have := HN3.out; have := HLX.out; have := HKL.out; omega))
        rw [← HKY.out] at KK
        go_wp2_with fail
        refine KK.out.mono ?_
        rintro e w5 ⟨rfl, t5⟩
        have T5 := hid t5
        have S5 := hid (S4.out.new t5)
        have O5 := hid (G4.out.own.kept t5 (fun _ _ e => e))
        have R5 := hid ((t5.block r3 (lt_of_block R4.out) id).trans R4.out)
        have X5 := hid (X4.out.new t5)
        clear t5 KK q0 q1 q2 q3
        have KQ := hid (quote_any KY M4 (.slice ak Nk ck) w5 S5.out.tabs O5.out (by omega) (by have := HL4.out; omega))
        go_wp2_with fail
        refine KQ.out.mono ?_
        rintro e w6 ⟨v6, rfl, g6⟩
        have G6 := hid g6
        obtain ⟨M6, hM6⟩ : ∃ M6, M6 = M4 ++ quB KY := ⟨_, rfl⟩
        rw [← hM6] at G6
        have HM6 := hid hM6
        have hM6l : M6.length = M4.length + (quB KY).length := by rw [hM6, List.length_append]
        clear hM6
        have S6 := hid (S5.out.grew O5.out g6 V4.out)
        have V6 := hid (two_le g6 V4.out S5.out.tabs.two)
        have R6 := hid (other_kept O5.out g6 R5.out (by decide))
        have X6 := hid (X5.out.grew O5.out g6)
        clear g6 KQ
        obtain ⟨a6, c6, N6, hv6, hN6, hO6⟩ := OB.named G6.out.own
        subst hv6
        have OW6 := hid hO6
        have HL6 := hid hN6
        have hN6b : N6 ≤ 999999999 := by
          have := HL4.out
          omega
        have HL6b := hid (show N6 + 1 + (shB kx).length ≤ 999999999 from by have := HL4.out; omega)
        clear hN6 hO6 hM6l
        go_wp2_with (at_builtin; (refine wpList_append_own_at _ rfl _ _ 53 rfl 0 5 i0 (.int .u8 0) 1 1 Tryd.underlying53 hi5 hz0 hz1 hz2 rfl (by decide) _ _ _ rfl (OW6.out.alloc _) ⟨w6.heap.size, 0, none⟩ 1 1 [.int .u8 58] rfl rfl (row_new w6 [.int .u8 58] 5) (by intro u hu; simp at hu; subst hu; rfl) (by unfold maxLen; omega) (by omega) (Nat.zero_le _) ?_))
        intro v7 w7 hown hgrow _ hat
        have G7 := hid (grew_of (m := [58]) (l := M6) (by rw [HL6.out]; exact hown) hgrow hat)
        clear hown hgrow hat OW6
        obtain ⟨a7, c7, N7, hv7, _, _⟩ := OB.named G7.out.own
        subst hv7
        have S7 := hid (S6.out.grew G6.out.own G7.out V6.out)
        have V7 := hid (two_le G7.out V6.out S6.out.tabs.two)
        have R7 := hid (other_kept G6.out.own G7.out R6.out (by decide))
        have X7 := hid (X6.out.grew G6.out.own G7.out)
        obtain ⟨⟨r0, r1, r2, r4⟩, _⟩ := cells4 R7.out
        have K8 := hid (show Calls Tryd.prog 20 #[.agg #[.int .i64 xk, .string xt, .slice xa2 xn2 xc2, .slice xa3 xn3 xc3], .slice a7 N7 c7] w7 fun e w' => ∃ v', e = .returned v' ∧ Grew w7 w' (.slice a7 N7 c7) v' (M6 ++ [58] ++ shB kx) from KSK.out B ⟨xk, xt, .slice xa2 xn2 xc2, .slice xa3 xn3 xc3⟩ (M6 ++ [58]) (.slice a7 N7 c7) w7 X7.out S7.out.tabs G7.out.own V7.out (by have := HL6b.out; have := HL6.out; rw [List.length_append, List.length_singleton]; omega))
        go_wp2_with fail
        refine K8.out.mono ?_
        rintro e w8 ⟨v8, rfl, g8⟩
        have S8 := hid (S7.out.grew G7.out.own g8 V7.out)
        have V8 := hid (two_le g8 V7.out S7.out.tabs.two)
        have GA := hid ((G4.out.trans (Grew.from T5.out G6.out)).trans (G7.out.trans g8))
        have GB := hid (GK.out.trans (Grew.from T3.out GA.out))
        clear K8 g8 r0 r1 r2 r4
        have hfin : M6 ++ [58] ++ shB kx = (l ++ [123]) ++ jnB 6 ks (shBs xs) (k + 1) := by
          rw [HM6.out, HM4.out, jnB_more, ← List.append_assoc, ← HLL.out, HPC.out]
          simp only [List.append_assoc]
        rw [hfin] at GB
        obtain ⟨a8, c8, N8, hv8, hN8, _⟩ := OB.named GB.out.own
        subst hv8
        have HL8 := hid hN8
        have hN8b : N8 ≤ 1000000000 := by
          have := HTOT.out
          rw [List.length_append] at hN8
          omega
        clear hN8 hfin
        go_wp2
        go_roundg (gk - 1)
        case measure => omega
        case rel => exact ⟨k + 1, a8, N8, c8, rfl, by omega, by go_num, hN8b, HL8, GB, S8, V8⟩
      · have hkI : (0 : Int) < (k : Int) := by omega
        have HK0 := hid hk0
        clear hk0
        have HPC := hid (show pcB 6 ks (shBs xs) k = [44] ++ ((quB KY ++ [58]) ++ shB kx) from by
          unfold pcB
          rw [HSB.out, if_neg HK0.out, ← HKY.out]
          rfl)
        have OW3 := hid (show w3.ownsRow 0 5 1 (.slice ak Nk ck) Nk (bv L) from by have := O3.out; unfold OB at this; rw [HNk.out] at this; exact this)
        go_wp2_with (at_builtin; (refine wpList_append_own_at _ rfl _ _ 53 rfl 0 5 i0 (.int .u8 0) 1 1 Tryd.underlying53 hi5 hz0 hz1 hz2 rfl (by decide) _ _ _ rfl (OW3.out.alloc _) ⟨w3.heap.size, 0, none⟩ 1 1 [.int .u8 44] rfl rfl (row_new w3 [.int .u8 44] 5) (by intro u hu; simp at hu; subst hu; rfl) (by unfold maxLen; omega) (by omega) (Nat.zero_le _) ?_))
        intro v4 w4 hown hgrow _ hat
        have G4 := hid (grew_of (m := [44]) (l := L) (by rw [HNk.out]; exact hown) hgrow hat)
        clear hown hgrow hat OW3
        obtain ⟨a4, c4, N4, hv4, _, _⟩ := OB.named G4.out.own
        subst hv4
        have S4 := hid (S3.out.grew O3.out G4.out VK.out)
        have V4 := hid (two_le G4.out VK.out HS3.out)
        have R4 := hid (other_kept O3.out G4.out R3.out (by decide))
        have X4 := hid (V3.out.grew O3.out G4.out)
        have HL4 := hid (show (L ++ [44]).length + ((quB KY).length + 1 + (shB kx).length) ≤ 999999999 from by
          have h1 := HT2.out
          rw [HPC.out] at h1
          have h2 := HNk.out
          simp only [List.length_append, List.length_cons, List.length_nil] at h1 ⊢
          omega)
        obtain ⟨M4, hM4⟩ : ∃ M4, M4 = L ++ [44] := ⟨_, rfl⟩
        rw [← hM4] at HL4 G4
        have HM4 := hid hM4
        clear hM4
        obtain ⟨⟨q0, q1, q2, q3⟩, _⟩ := cells4 S4.out.obj
        have KK := hid (key_any 6 ⟨#[]⟩ a2 (some ⟨g3, 0, none⟩) n2 c2 n3 c3 ks k w4 S4.out.keys (by have := HN3.out; have := HLX.out; have := HKL.out; omega))
        rw [← HKY.out] at KK
        go_wp2_with fail
        refine KK.out.mono ?_
        rintro e w5 ⟨rfl, t5⟩
        have T5 := hid t5
        have S5 := hid (S4.out.new t5)
        have O5 := hid (G4.out.own.kept t5 (fun _ _ e => e))
        have R5 := hid ((t5.block r3 (lt_of_block R4.out) id).trans R4.out)
        have X5 := hid (X4.out.new t5)
        clear t5 KK q0 q1 q2 q3
        have KQ := hid (quote_any KY M4 (.slice a4 N4 c4) w5 S5.out.tabs O5.out (by omega) (by have := HL4.out; omega))
        go_wp2_with fail
        refine KQ.out.mono ?_
        rintro e w6 ⟨v6, rfl, g6⟩
        have G6 := hid g6
        obtain ⟨M6, hM6⟩ : ∃ M6, M6 = M4 ++ quB KY := ⟨_, rfl⟩
        rw [← hM6] at G6
        have HM6 := hid hM6
        have hM6l : M6.length = M4.length + (quB KY).length := by rw [hM6, List.length_append]
        clear hM6
        have S6 := hid (S5.out.grew O5.out g6 V4.out)
        have V6 := hid (two_le g6 V4.out S5.out.tabs.two)
        have R6 := hid (other_kept O5.out g6 R5.out (by decide))
        have X6 := hid (X5.out.grew O5.out g6)
        clear g6 KQ
        obtain ⟨a6, c6, N6, hv6, hN6, hO6⟩ := OB.named G6.out.own
        subst hv6
        have OW6 := hid hO6
        have HL6 := hid hN6
        have hN6b : N6 ≤ 999999999 := by
          have := HL4.out
          omega
        have HL6b := hid (show N6 + 1 + (shB kx).length ≤ 999999999 from by have := HL4.out; omega)
        clear hN6 hO6 hM6l
        go_wp2_with (at_builtin; (refine wpList_append_own_at _ rfl _ _ 53 rfl 0 5 i0 (.int .u8 0) 1 1 Tryd.underlying53 hi5 hz0 hz1 hz2 rfl (by decide) _ _ _ rfl (OW6.out.alloc _) ⟨w6.heap.size, 0, none⟩ 1 1 [.int .u8 58] rfl rfl (row_new w6 [.int .u8 58] 5) (by intro u hu; simp at hu; subst hu; rfl) (by unfold maxLen; omega) (by omega) (Nat.zero_le _) ?_))
        intro v7 w7 hown hgrow _ hat
        have G7 := hid (grew_of (m := [58]) (l := M6) (by rw [HL6.out]; exact hown) hgrow hat)
        clear hown hgrow hat OW6
        obtain ⟨a7, c7, N7, hv7, _, _⟩ := OB.named G7.out.own
        subst hv7
        have S7 := hid (S6.out.grew G6.out.own G7.out V6.out)
        have V7 := hid (two_le G7.out V6.out S6.out.tabs.two)
        have R7 := hid (other_kept G6.out.own G7.out R6.out (by decide))
        have X7 := hid (X6.out.grew G6.out.own G7.out)
        obtain ⟨⟨r0, r1, r2, r4⟩, _⟩ := cells4 R7.out
        have K8 := hid (show Calls Tryd.prog 20 #[.agg #[.int .i64 xk, .string xt, .slice xa2 xn2 xc2, .slice xa3 xn3 xc3], .slice a7 N7 c7] w7 fun e w' => ∃ v', e = .returned v' ∧ Grew w7 w' (.slice a7 N7 c7) v' (M6 ++ [58] ++ shB kx) from KSK.out B ⟨xk, xt, .slice xa2 xn2 xc2, .slice xa3 xn3 xc3⟩ (M6 ++ [58]) (.slice a7 N7 c7) w7 X7.out S7.out.tabs G7.out.own V7.out (by have := HL6b.out; have := HL6.out; rw [List.length_append, List.length_singleton]; omega))
        go_wp2_with fail
        refine K8.out.mono ?_
        rintro e w8 ⟨v8, rfl, g8⟩
        have S8 := hid (S7.out.grew G7.out.own g8 V7.out)
        have V8 := hid (two_le g8 V7.out S7.out.tabs.two)
        have GA := hid ((G4.out.trans (Grew.from T5.out G6.out)).trans (G7.out.trans g8))
        have GB := hid (GK.out.trans (Grew.from T3.out GA.out))
        clear K8 g8 r0 r1 r2 r4
        have hfin : M6 ++ [58] ++ shB kx = (l ++ [123]) ++ jnB 6 ks (shBs xs) (k + 1) := by
          rw [HM6.out, HM4.out, jnB_more, ← List.append_assoc, ← HLL.out, HPC.out]
          simp only [List.append_assoc]
        rw [hfin] at GB
        obtain ⟨a8, c8, N8, hv8, hN8, _⟩ := OB.named GB.out.own
        subst hv8
        have HL8 := hid hN8
        have hN8b : N8 ≤ 1000000000 := by
          have := HTOT.out
          rw [List.length_append] at hN8
          omega
        clear hN8 hfin
        go_wp2
        go_roundg (gk - 1)
        case measure => omega
        case rel => exact ⟨k + 1, a8, N8, c8, rfl, by omega, by go_num, hN8b, HL8, GB, S8, V8⟩
    · have hltI : ¬ (k : Int) < (n3 : Int) := by omega
      obtain rfl : k = n3 := by omega
      obtain ⟨L, hL⟩ : ∃ L, L = (l ++ [123]) ++ jnB 6 ks (shBs xs) k := ⟨_, rfl⟩
      have HLL := hid hL
      rw [← hL] at HNk GK
      clear hL
      have OWF := hid (show wr.ownsRow 0 5 1 (.slice ak Nk ck) Nk (bv L) from by have := GK.out.own; unfold OB at this; rw [HNk.out] at this; exact this)
      go_wp2_with (at_builtin; (refine wpList_append_own_at _ rfl _ _ 53 rfl 0 5 i0 (.int .u8 0) 1 1 Tryd.underlying53 hi5 hz0 hz1 hz2 rfl (by decide) _ _ _ rfl (OWF.out.alloc _) ⟨wr.heap.size, 0, none⟩ 1 1 [.int .u8 125] rfl rfl (row_new wr [.int .u8 125] 5) (by intro u hu; simp at hu; subst hu; rfl) (by unfold maxLen; omega) (by omega) (Nat.zero_le _) ?_))
      intro v9 w9 hown hgrow _ hat
      have G9 := hid (grew_of (m := [125]) (l := L) (by rw [HNk.out]; exact hown) hgrow hat)
      clear hown hgrow hat OWF
      go_wp2
      go_ret
      refine ⟨v9, rfl, ?_⟩
      have := Grew.from T0.out ((G1.out.trans GK.out).trans G9.out)
      rw [HLL.out, HN3.out, HLX.out] at this
      simpa using this
end Go.Proofs.YtabhlhgfacpohaaDoor
