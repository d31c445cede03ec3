/- SyntaxGroups' walk; no condition. -/
import Derived.Test.YtdhhcefmmojcmaaGreatDoorZi
import Derived.Test.YtdhhcefmmojcmaaGreatDoorGe
namespace Go.Proofs.YtdhhcefmmojcmaaGreatDoor
open Go.RowKit
open Go.Lib

theorem prs_err {s : ByteArray} {f : Fl} {c i : Int} (h : prsR s f = .error (c, i)) : c ≠ 0 := by
  unfold prsR at h
  split at h
  · cases h; decide
  · split at h
    · cases h; decide
    · split at h
      · cases h
      · rename_i c2 j he
        cases h
        have := (pat_er tableN f c2 j he).1
        omega
theorem prs_gs {s : ByteArray} {f : Fl} {x : Nd} {ns : List ByteArray} (h : prsR s f = .ok (x, ns)) : ∃ nw, ns = ⟨#[]⟩ :: nw ∧ gsN x = numd 1 nw := by
  unfold prsR at h
  split at h
  · cases h
  · split at h
    · cases h
    · split at h
      · rename_i r he
        cases h
        exact pat_gs he
      · cases h
theorem numd_len : ∀ (n : Nat) (l : List ByteArray), (numd n l).length = l.length
  | n, [] => rfl
  | n, a :: l => by rw [numd, List.length_cons, List.length_cons, numd_len]
set_option maxRecDepth 100000 in
set_option maxHeartbeats 8000000 in
theorem groups_bad (s : ByteArray) (c i : Int) (hp : prsR s fl0 = .error (c, i)) (w : World) (ht : TabsK w) (hx : Sx w) (h7 : 7 ≤ w.heap.size) :
    Calls Tryz.prog 8 #[.string s] w fun e w' => e = .returned (.bool true) ∧ Touch (fun _ => False) w w' := by
  have KS := hid (speaks_yes w ht hx h7)
  have KP := hid (fun (wq : World) (t : Touch (fun _ => False) w wq) => parse_any s fl0 wq (ht.new t) (hx.new t) (Nat.le_trans h7 t.size))
  rw [hp] at KP
  unfold fl0 PrsP at KP
  simp only at KP
  have hcB : (c == 0) = false := by simpa using prs_err hp
  clear ht hx h7 hp
  go_enter Tryz.func8, Tryz.ntmps8
  go_wp2_with fail
  refine KS.out.mono ?_
  rintro e w1 ⟨rfl, t1⟩
  have KP2 := hid (KP.out _ t1)
  have T1 := hid t1
  clear t1 KS KP
  go_wp2_with fail
  refine KP2.out.mono ?_
  rintro e w3 ⟨rfl, t3⟩
  have T3 := hid (T1.out.trans t3 (fun _ _ e => e))
  unfold zPat
  clear t3 T1 KP2
  go_upto_region 4 with fail
  have HK := kept2 w3 #[.int .i64 0, .slice none 0 0, .bool false, .int .i64 0, .int .i64 0, .bool false, .int .i64 0, .string ⟨#[]⟩, .slice none 0 0, .slice none 0 0] #[.int .i64 c, .int .i64 i]
  generalize (w3.alloc (.cells #[.int .i64 0, .slice none 0 0, .bool false, .int .i64 0, .int .i64 0, .bool false, .int .i64 0, .string ⟨#[]⟩, .slice none 0 0, .slice none 0 0] 31)).alloc (.cells #[.int .i64 c, .int .i64 i] 34) = w4 at *
  obtain ⟨hp4, hq4, t4⟩ := HK
  have T4 := hid (T3.out.trans t4 (fun _ _ e => e))
  obtain ⟨p, hpe⟩ : ∃ p, p = w3.heap.size := ⟨_, rfl⟩
  rw [← hpe] at hp4 hq4 ⊢
  clear hpe T3 t4
  have c9 : w4.cell? ⟨p, 9, none⟩ = some (.slice none 0 0) := cell_of hp4 9 _ rfl
  have Q4 := hid hq4
  clear hp4 hq4
  go_wp2_with (first | refine wpList_load_row rfl 34 _ rfl (p + 1) rfl 34 _ (0, 0) _ Q4.out Tryz.underlying34 rfl info34 ?_ | fail)
  go_ret
  exact ⟨rfl, T4.out⟩
theorem two_more (w : World) : ((w.alloc (.cells #[.int .i64 0] 3)).alloc (.cells #[.bool true] 4)).heap[w.heap.size]? = some (.cells #[.int .i64 0] 3 (0, 0)) ∧ ((w.alloc (.cells #[.int .i64 0] 3)).alloc (.cells #[.bool true] 4)).heap[w.heap.size + 1]? = some (.cells #[.bool true] 4 (0, 0)) ∧ Touch (fun _ => False) w ((w.alloc (.cells #[.int .i64 0] 3)).alloc (.cells #[.bool true] 4)) := by
  have T3 := (Touch.refl (fun _ => False) (w.alloc (.cells #[.int .i64 0] 3))).alloc (.cells #[.bool true] 4)
  have e : (w.alloc (.cells #[.int .i64 0] 3)).heap.size = w.heap.size + 1 := by simp
  refine ⟨?_, ?_, ((Touch.refl (fun _ => False) w).alloc _).alloc _⟩
  · rw [T3.block _ (by omega) id]
    exact block_new w _ 3
  · have := block_new (w.alloc (.cells #[.int .i64 0] 3)) #[.bool true] 4
    rw [e] at this
    exact this
set_option maxRecDepth 100000 in
set_option maxHeartbeats 8000000 in
theorem groups_ok (s : ByteArray) (x : Nd) (ns : List ByteArray) (hp : prsR s fl0 = .ok (x, ns)) (hl : ns.length ≤ 4194304) (w : World) (ht : TabsK w) (hx : Sx w) (h7 : 7 ≤ w.heap.size) :
    Calls Tryz.prog 8 #[.string s] w fun e w' => e = .returned (.bool true) ∧ Touch (fun _ => False) w w' := by
  have KS := hid (speaks_yes w ht hx h7)
  have KP := hid (fun (wq : World) (t : Touch (fun _ => False) w wq) => parse_any s fl0 wq (ht.new t) (hx.new t) (Nat.le_trans h7 t.size))
  obtain ⟨nw, hns, hg⟩ := prs_gs hp
  have HNK := hid (show Nok ns 0 (gsN x) from by rw [hg, hns]; exact nok_numd [⟨#[]⟩] nw 0 rfl)
  have HLN := hid (show ns.length = (gsN x).length + 1 from by rw [hg, numd_len, hns, List.length_cons])
  have HN0 := hid (show ns[0]? = some ⟨#[]⟩ from by rw [hns]; rfl)
  rw [hp] at KP
  unfold fl0 PrsP at KP
  simp only at KP
  clear ht hx h7 hp hns hg
  go_enter Tryz.func8, Tryz.ntmps8
  go_wp2_with fail
  refine KS.out.mono ?_
  rintro e w1 ⟨rfl, t1⟩
  have KP2 := hid (KP.out _ t1)
  have T1 := hid t1
  clear t1 KS KP
  go_wp2_with fail
  refine KP2.out.mono ?_
  rintro e w3 ⟨c, an, nn, cn, rfl, ht3, hs3, hn3, t3⟩
  have T3 := hid (T1.out.trans t3 (fun _ _ e => e))
  obtain ⟨n, hn⟩ : ∃ n, n = ns.length := ⟨_, rfl⟩
  obtain rfl : nn = n := by
    obtain ⟨_, _, hv⟩ := own_shape hs3
    cases hv
    exact hn.symm
  have HNN := hid hn
  have HT3 := hid ht3
  have HS3 := hid hs3
  obtain ⟨ck, sa, sn, sc, fo, mi, ma, la, ca, nm, ka, kn, kc⟩ := c
  unfold Cel.arr
  clear t3 T1 KP2 ht3 hs3 hn3 hn
  go_upto_region 4 with fail
  have HK := kept2 w3 #[.int .i64 ck, .slice sa sn sc, .bool fo, .int .i64 mi, .int .i64 ma, .bool la, .int .i64 ca, .string nm, .slice ka kn kc, .slice an nn cn] #[.int .i64 0, .int .i64 0]
  generalize (w3.alloc (.cells #[.int .i64 ck, .slice sa sn sc, .bool fo, .int .i64 mi, .int .i64 ma, .bool la, .int .i64 ca, .string nm, .slice ka kn kc, .slice an nn cn] 31)).alloc (.cells #[.int .i64 0, .int .i64 0] 34) = w4 at *
  obtain ⟨hp4, hq4, t4⟩ := HK
  have T4 := hid (T3.out.trans t4 (fun _ _ e => e))
  obtain ⟨p, hpe⟩ : ∃ p, p = w3.heap.size := ⟨_, rfl⟩
  rw [← hpe] at hp4 hq4 ⊢
  have HT4 := hid (HT3.out.new t4)
  have HS4 := hid (show SL w4 (.slice an nn cn) ns from rowKept HS3.out t4 (fun _ _ e => e))
  clear hpe T3 t4 HT3 HS3
  have P4 := hid hp4
  have Q4 := hid hq4
  clear hp4 hq4
  go_upto_region 8 with (first | refine wpList_load_row rfl 34 _ rfl (p + 1) rfl 34 _ (0, 0) _ Q4.out Tryz.underlying34 rfl info34 ?_ | fail)
  have HM := two_more w4
  have HSZ := hid (show p < w4.heap.size from lt_of_block P4.out)
  generalize (w4.alloc (.cells #[.int .i64 0] 3)).alloc (.cells #[.bool true] 4) = w5 at *
  obtain ⟨b0, b1, t5⟩ := HM
  have P5 := hid ((t5.block p HSZ.out id).trans P4.out)
  have HWQ := hid (show w.heap.size ≤ w4.heap.size from T4.out.size)
  clear HSZ
  generalize w4.heap.size = q at *
  have HT5 := hid (HT4.out.new t5)
  have HS5 := hid (show SL w5 (.slice an nn cn) ns from rowKept HS4.out t5 (fun _ _ e => e))
  have HC5 := hid (show Cnt w5 q (q + 1) 0 from ⟨b0, b1⟩)
  have T5 := hid (T4.out.trans t5 (fun _ _ e => e))
  clear b0 b1 t5 P4 Q4 HT4 HS4 T4
  have KW := hid (walk_any _ x (Nat.le_refl _) _ _ w5 an cn ns q (q + 1) 0 HT5.out (by have := HS5.out; rw [HNN.out] at this; exact this) HC5.out HNK.out hl (Nat.zero_le _))
  rw [← HNN.out] at KW
  unfold Cel.arr at KW
  obtain ⟨m, hm⟩ : ∃ m, m = 0 + (gsN x).length := ⟨_, rfl⟩
  have HMM := hid (show nn = m + 1 from by rw [HNN.out, HLN.out, hm]; omega)
  have HNB := hid (show (nn : Int) ≤ 4194304 from by rw [HNN.out]; omega)
  rw [← hm] at KW
  clear hm hl HLN
  have c0 : w5.cell? ⟨p, 0, none⟩ = some (.int .i64 ck) := cell_of P5.out 0 _ rfl
  have c1 : w5.cell? ⟨p, 1, none⟩ = some (.slice sa sn sc) := cell_of P5.out 1 _ rfl
  have c2 : w5.cell? ⟨p, 2, none⟩ = some (.bool fo) := cell_of P5.out 2 _ rfl
  have c3 : w5.cell? ⟨p, 3, none⟩ = some (.int .i64 mi) := cell_of P5.out 3 _ rfl
  have c4 : w5.cell? ⟨p, 4, none⟩ = some (.int .i64 ma) := cell_of P5.out 4 _ rfl
  have c5 : w5.cell? ⟨p, 5, none⟩ = some (.bool la) := cell_of P5.out 5 _ rfl
  have c6 : w5.cell? ⟨p, 6, none⟩ = some (.int .i64 ca) := cell_of P5.out 6 _ rfl
  have c7 : w5.cell? ⟨p, 7, none⟩ = some (.string nm) := cell_of P5.out 7 _ rfl
  have c8 : w5.cell? ⟨p, 8, none⟩ = some (.slice ka kn kc) := cell_of P5.out 8 _ rfl
  have c9 : w5.cell? ⟨p, 9, none⟩ = some (.slice an nn cn) := cell_of P5.out 9 _ rfl
  go_wp2_with fail
  refine KW.out.mono ?_
  rintro e w6 ⟨rfl, hc6, t6⟩
  have n31 : ¬ (p = q ∨ p = q + 1) := fun e => by
    rcases e with e | e
    · have := P5.out; rw [e, HC5.out.count] at this; cases this
    · have := P5.out; rw [e, HC5.out.ok] at this; cases this
  have P6 := (t6.block p (lt_of_block P5.out) n31).trans P5.out
  have HS6 := show SL w6 (.slice an nn cn) ns from rowKept HS5.out t6 (fun g e => sl_cnt HC5.out HS5.out g e)
  have T6 := hid (T5.out.trans t6 (fun i hi e => by have := HWQ.out; omega))
  clear c0 c1 c2 c3 c4 c5 c6 c7 c8 c9 n31
  have d9 : w6.cell? ⟨p, 9, none⟩ = some (.slice an nn cn) := cell_of P6 9 _ rfl
  have dq : w6.cell? ⟨q, 0, none⟩ = some (.int .i64 (m : Nat)) := cell_of hc6.count 0 _ rfl
  have do0 : w6.cell? ⟨q + 1, 0, none⟩ = some (.bool true) := cell_of hc6.ok 0 _ rfl
  obtain ⟨g, han, _, hg0⟩ := SL.at HS6 HN0.out
  subst han
  obtain rfl : nn = m + 1 := HMM.out
  have hB : (((m + 1 : Nat) : Int) - 1 == (m : Int)) = true := by simp
  have hnb := HNB.out
  clear P6 HS6 hc6 t6 KW HMM HNN
  go_wp2
  go_ret
  exact ⟨rfl, T6.out⟩
theorem prs_len {s : ByteArray} {f : Fl} {x : Nd} {ns : List ByteArray} (h : prsR s f = .ok (x, ns)) : ns.length ≤ 1025 := by
  unfold prsR at h
  split at h
  · cases h
  · rename_i hs
    split at h
    · cases h
    · rename_i R P bad hd
      have hb := (bg_in s 1 (by decide)).2.2
      obtain ⟨R2, P2, e1, e2, e3⟩ := dc_ok s s.size (bg s 1).2 [] [] 0 hb (by omega) (by rw [hd])
      rw [hd, List.nil_append] at e1 e2
      simp only at e1 e2
      subst e1
      subst e2
      have hg := (seg_good (by omega) hb e3 0 0 none none 0 0).lenR
      simp only at hg
      split at h
      · rename_i r hp
        cases h
        unfold patF at hp
        split at hp
        · cases hp
        · rename_i y s1 he
          split at hp
          · cases hp
            have g1 := altN_grw R tableN 32 _ _ _ (Nat.zero_le _) he
            have g2 := altN_fwd R tableN 32 _ _ _ (Nat.zero_le _) he
            simp only [List.length_singleton] at g1 g2
            omega
          · cases hp
      · cases h
theorem groups_walk (s : ByteArray) (w : World) (ht : TabsK w) (hx : Sx w) (h7 : 7 ≤ w.heap.size) :
    Calls Tryz.prog 8 #[.string s] w fun e w' => e = .returned (.bool true) ∧ Touch (fun _ => False) w w' := by
  cases hp : prsR s fl0 with
  | error e => exact groups_bad s e.1 e.2 hp w ht hx h7
  | ok r => exact groups_ok s r.1 r.2 hp (by have := prs_len hp; omega) w ht hx h7
end Go.Proofs.YtdhhcefmmojcmaaGreatDoor
