/- Texts of this proof, one behind the other: what each says stands ahead of it. -/
import Derived.Test.YtdhhcefmmojcmaaGreatDoorXv
/- A parser of patterns: any escape; conditions: as told. -/
namespace Go.Proofs.YtdhhcefmmojcmaaGreatDoor
open Go.RowKit
open Go.Lib

set_option maxRecDepth 100000 in
set_option maxHeartbeats 8000000 in
theorem esc_other (b : Nat) (X : Px) (k0 k : Nat) (f : Fl) (vn : Value) (ns : List ByteArray) (op : Nat) (w : World) (h : PS w b X k f vn ns op) (hX : X.Good) (hk : k ≤ X.R.length) (hk0 : k0 ≤ X.R.length) (x : Int) (hx : lkR X.R k = x) (n100 : x ≠ 100) (n68 : x ≠ 68) (n115 : x ≠ 115) (n83 : x ≠ 83) (n119 : x ≠ 119) (n87 : x ≠ 87) (n112 : x ≠ 112) (n80 : x ≠ 80) (n120 : x ≠ 120) (n110 : x ≠ 110) (n116 : x ≠ 116) (n114 : x ≠ 114) (n102 : x ≠ 102) (n118 : x ≠ 118) :
    Calls Tryz.prog 132 #[.pointer (some ⟨b, 0, none⟩), .int .i64 (k0 : Nat)] w fun e w' => EscP b X f vn ns op w (if x < 33 ∨ x > 126 ∨ isAln x = true then .error (20, k0) else .ok ([(x, x)], some x, k + 1)) e w' := by
  have hk2 : k ≤ 1024 := by have := hX.lenR; omega
  have HK := hid h
  have TK := hid (Touch.refl (fun g => g = b) w)
  have KW := hid (fun k1 w' hp => wrong_any b X k1 f vn ns op 20 k0 w' hp (by have := hX.lenP; omega))
  have b100 : (x == 100) = false := beq_eq_false_iff_ne.2 n100
  have b68 : (x == 68) = false := beq_eq_false_iff_ne.2 n68
  have b115 : (x == 115) = false := beq_eq_false_iff_ne.2 n115
  have b83 : (x == 83) = false := beq_eq_false_iff_ne.2 n83
  have b119 : (x == 119) = false := beq_eq_false_iff_ne.2 n119
  have b87 : (x == 87) = false := beq_eq_false_iff_ne.2 n87
  have b112 : (x == 112) = false := beq_eq_false_iff_ne.2 n112
  have b80 : (x == 80) = false := beq_eq_false_iff_ne.2 n80
  have b120 : (x == 120) = false := beq_eq_false_iff_ne.2 n120
  have b110 : (x == 110) = false := beq_eq_false_iff_ne.2 n110
  have b116 : (x == 116) = false := beq_eq_false_iff_ne.2 n116
  have b114 : (x == 114) = false := beq_eq_false_iff_ne.2 n114
  have b102 : (x == 102) = false := beq_eq_false_iff_ne.2 n102
  have b118 : (x == 118) = false := beq_eq_false_iff_ne.2 n118
  clear n100 n68 n115 n83 n119 n87 n112 n80 n120 n110 n116 n114 n102 n118
  clear h hX hk hk0
  by_cases hm : x = -1
  · subst hm
    rw [if_pos (.inl (by decide))]
    clear b100 b68 b115 b83 b119 b87 b112 b80 b120 b110 b116 b114 b102 b118
    go_enter Tryz.func132, Tryz.ntmps132
    go_wp2_with fail
    refine (take_n HK.out (by omega) hx).mono ?_
    rintro e w1 ⟨rfl, hp, tt⟩
    replace HK := hid hp
    replace TK := hid (TK.out.trans tt (fun _ _ e => e))
    clear hp tt hx
    go_wp2_with fail
    refine (KW.out _ _ HK.out).mono ?_
    rintro e w9 ⟨rfl, t9⟩
    replace TK := hid (TK.out.trans t9 (fun _ _ e => e.elim))
    clear t9 KW
    go_wp2
    exact ⟨rfl, rfl, TK.out⟩
  · by_cases h1 : x < 33
    · rw [if_pos (.inl h1)]
      go_enter Tryz.func132, Tryz.ntmps132
      go_wp2_with fail
      refine (take_y HK.out (by omega) x hx hm).mono ?_
      rintro e w1 ⟨rfl, hp, tt⟩
      replace HK := hid hp
      replace TK := hid (TK.out.trans tt (fun _ _ e => e))
      clear hp tt hx
      go_wp2_with fail
      refine (KW.out _ _ HK.out).mono ?_
      rintro e w9 ⟨rfl, t9⟩
      replace TK := hid (TK.out.trans t9 (fun _ _ e => e.elim))
      clear t9 KW
      go_wp2
      exact ⟨rfl, rfl, TK.out⟩
    · by_cases h2 : x > 126
      · rw [if_pos (.inr (.inl h2))]
        go_enter Tryz.func132, Tryz.ntmps132
        go_wp2_with fail
        refine (take_y HK.out (by omega) x hx hm).mono ?_
        rintro e w1 ⟨rfl, hp, tt⟩
        replace HK := hid hp
        replace TK := hid (TK.out.trans tt (fun _ _ e => e))
        clear hp tt hx
        go_wp2_with fail
        refine (KW.out _ _ HK.out).mono ?_
        rintro e w9 ⟨rfl, t9⟩
        replace TK := hid (TK.out.trans t9 (fun _ _ e => e.elim))
        clear t9 KW
        go_wp2
        exact ⟨rfl, rfl, TK.out⟩
      · cases ha : isAln x with
        | true =>
          rw [if_pos (.inr (.inr rfl))]
          go_enter Tryz.func132, Tryz.ntmps132
          go_wp2_with fail
          refine (take_y HK.out (by omega) x hx hm).mono ?_
          rintro e w1 ⟨rfl, hp, tt⟩
          replace HK := hid hp
          replace TK := hid (TK.out.trans tt (fun _ _ e => e))
          clear hp tt hx
          go_wp2_with fail
          refine (letdig_any w1).mono ?_
          rintro e w2 ⟨v, rfl, ow⟩
          obtain ⟨a2, c2, hv, r2⟩ := ow.slice
          subst hv
          have KH := hid (has_says a2 c2 (cnR lAln) x w2 r2 (cn_good _).1)
          rw [has_aln] at KH
          replace HK := hid (HK.out.new ow.touch)
          replace TK := hid (TK.out.trans ow.touch (fun _ _ e => e.elim))
          clear ow r2
          rw [ha] at KH
          go_wp2_with fail
          refine KH.out.mono ?_
          rintro e w3 ⟨rfl, t3⟩
          replace HK := hid (HK.out.new t3)
          replace TK := hid (TK.out.trans t3 (fun _ _ e => e.elim))
          clear t3 KH
          go_wp2_with fail
          refine (KW.out _ _ HK.out).mono ?_
          rintro e w9 ⟨rfl, t9⟩
          replace TK := hid (TK.out.trans t9 (fun _ _ e => e.elim))
          clear t9 KW
          go_wp2
          exact ⟨rfl, rfl, TK.out⟩
        | false =>
          rw [if_neg (fun e => by rcases e with e | e | e; exact h1 e; exact h2 e; cases e)]
          go_enter Tryz.func132, Tryz.ntmps132
          go_wp2_with fail
          refine (take_y HK.out (by omega) x hx hm).mono ?_
          rintro e w1 ⟨rfl, hp, tt⟩
          replace HK := hid hp
          replace TK := hid (TK.out.trans tt (fun _ _ e => e))
          clear hp tt hx
          go_wp2_with fail
          refine (letdig_any w1).mono ?_
          rintro e w2 ⟨v, rfl, ow⟩
          obtain ⟨a2, c2, hv, r2⟩ := ow.slice
          subst hv
          have KH := hid (has_says a2 c2 (cnR lAln) x w2 r2 (cn_good _).1)
          rw [has_aln] at KH
          replace HK := hid (HK.out.new ow.touch)
          replace TK := hid (TK.out.trans ow.touch (fun _ _ e => e.elim))
          clear ow r2
          rw [ha] at KH
          go_wp2_with fail
          refine KH.out.mono ?_
          rintro e w3 ⟨rfl, t3⟩
          replace HK := hid (HK.out.new t3)
          replace TK := hid (TK.out.trans t3 (fun _ _ e => e.elim))
          clear t3 KH
          clear KW
          go_wp2_with fail
          refine (only_any x w3).mono ?_
          rintro e w4 ⟨v, rfl, ow⟩
          obtain ⟨a4, c4, hv, _⟩ := ow.slice
          subst hv
          have O := hid ow.own
          have N := hid (fun g e => Nat.le_trans TK.out.size (ow.new g e))
          replace HK := hid (HK.out.new ow.touch)
          replace TK := hid (TK.out.trans ow.touch (fun _ _ e => e.elim))
          clear ow
          go_wp2
          refine bodyPost_ret (results_tmp2 rfl _ _ _) rfl ?_
          exact ⟨_, rfl, O.out, N.out, HK.out, TK.out⟩
theorem escape_any (b : Nat) (X : Px) (k0 k : Nat) (f : Fl) (vn : Value) (ns : List ByteArray) (op : Nat) (w : World) (h : PS w b X k f vn ns op) (hX : X.Good) (hk : k ≤ X.R.length) (hk0 : k0 ≤ X.R.length) :
    Calls Tryz.prog 132 #[.pointer (some ⟨b, 0, none⟩), .int .i64 (k0 : Nat)] w fun e w' => EscP b X f vn ns op w (escF X.R tableN k0 k) e w' := by
  unfold escF escC
  by_cases h100 : lkR X.R k = 100
  · rw [if_pos h100]
    exact esc_d b X k0 k f vn ns op w h hX hk hk0 h100
  rw [if_neg h100]
  by_cases h68 : lkR X.R k = 68
  · rw [if_pos h68]
    exact esc_D b X k0 k f vn ns op w h hX hk hk0 h68
  rw [if_neg h68]
  by_cases h115 : lkR X.R k = 115
  · rw [if_pos h115]
    exact esc_s b X k0 k f vn ns op w h hX hk hk0 h115
  rw [if_neg h115]
  by_cases h83 : lkR X.R k = 83
  · rw [if_pos h83]
    exact esc_S b X k0 k f vn ns op w h hX hk hk0 h83
  rw [if_neg h83]
  by_cases h119 : lkR X.R k = 119
  · rw [if_pos h119]
    exact esc_w b X k0 k f vn ns op w h hX hk hk0 h119
  rw [if_neg h119]
  by_cases h87 : lkR X.R k = 87
  · rw [if_pos h87]
    exact esc_W b X k0 k f vn ns op w h hX hk hk0 h87
  rw [if_neg h87]
  by_cases h112 : lkR X.R k = 112
  · rw [if_pos (.inl h112), decide_eq_false (by rw [h112]; decide)]
    exact esc_p b X k0 k f vn ns op w h hX hk hk0 h112
  by_cases h80 : lkR X.R k = 80
  · rw [if_pos (.inr h80), decide_eq_true h80]
    exact esc_P b X k0 k f vn ns op w h hX hk hk0 h80
  rw [if_neg (fun e => by rcases e with e | e; exact h112 e; exact h80 e)]
  by_cases h120 : lkR X.R k = 120
  · rw [if_pos h120]
    exact esc_x b X k0 k f vn ns op w h hX hk hk0 h120
  rw [if_neg h120]
  by_cases h110 : lkR X.R k = 110
  · rw [if_pos h110]
    exact esc_n b X k0 k f vn ns op w h hX hk hk0 h110
  rw [if_neg h110]
  by_cases h116 : lkR X.R k = 116
  · rw [if_pos h116]
    exact esc_t b X k0 k f vn ns op w h hX hk hk0 h116
  rw [if_neg h116]
  by_cases h114 : lkR X.R k = 114
  · rw [if_pos h114]
    exact esc_r b X k0 k f vn ns op w h hX hk hk0 h114
  rw [if_neg h114]
  by_cases h102 : lkR X.R k = 102
  · rw [if_pos h102]
    exact esc_f b X k0 k f vn ns op w h hX hk hk0 h102
  rw [if_neg h102]
  by_cases h118 : lkR X.R k = 118
  · rw [if_pos h118]
    exact esc_v b X k0 k f vn ns op w h hX hk hk0 h118
  rw [if_neg h118]
  exact esc_other b X k0 k f vn ns op w h hX hk hk0 _ rfl h100 h68 h115 h83 h119 h87 h112 h80 h120 h110 h116 h114 h102 h118
end Go.Proofs.YtdhhcefmmojcmaaGreatDoor

/- A parser of patterns: a scalar or an escape in brackets, an item; conditions: as told. -/
namespace Go.Proofs.YtdhhcefmmojcmaaGreatDoor
open Go.RowKit
open Go.Lib

set_option maxRecDepth 100000 in
set_option maxHeartbeats 8000000 in
theorem member_any (b : Nat) (X : Px) (k0 k : Nat) (f : Fl) (vn : Value) (ns : List ByteArray) (op : Nat) (w : World) (h : PS w b X k f vn ns op) (hX : X.Good) (hk : k ≤ X.R.length) (hk0 : k0 ≤ X.R.length) :
    Calls Tryz.prog 141 #[.pointer (some ⟨b, 0, none⟩), .int .i64 (k0 : Nat)] w fun e w' => EscP b X f vn ns op w (membF X.R tableN k0 k) e w' := by
  have hk2 : k ≤ 1024 := by have := hX.lenR; omega
  obtain ⟨A, hA⟩ : ∃ A, A = membF X.R tableN k0 k := ⟨_, rfl⟩
  have HA := hid hA.symm
  rw [← hA]
  unfold membF at HA
  clear hA
  have HK := hid h
  have TK := hid (Touch.refl (fun g => g = b) w)
  have KW := hid (fun k1 w' hp => wrong_any b X k1 f vn ns op 24 k0 w' hp (by have := hX.lenP; omega))
  by_cases hm : lkR X.R k = -1
  · rw [if_pos hm] at HA
    clear h hX hk hk0
    have c5 := HK.out.c5
    go_enter Tryz.func141, Tryz.ntmps141
    go_wp2_with fail
    refine (take_n HK.out (by omega) hm).mono ?_
    rintro e w1 ⟨rfl, hp, tt⟩
    replace HK := hid hp
    replace TK := hid (TK.out.trans tt (fun _ _ e => e))
    clear hp tt hm c5
    go_wp2_with fail
    refine (KW.out _ _ HK.out).mono ?_
    rintro e w9 ⟨rfl, t9⟩
    replace TK := hid (TK.out.trans t9 (fun _ _ e => e.elim))
    clear t9 KW
    go_wp2
    refine ⟨rfl, ?_⟩
    rw [← HA.out]
    exact ⟨rfl, TK.out⟩
  rw [if_neg hm] at HA
  have hk3 : k + 1 ≤ X.R.length := lk_lt hm
  have KE := hid (fun w' hp => escape_any b X k (k + 1) f vn ns op w' hp hX hk3 hk)
  clear h hX hk hk0 KW hk3
  by_cases h92 : lkR X.R k = 92
  · rw [if_pos h92] at HA
    rw [HA.out] at KE
    have c5 := HK.out.c5
    match A with
    | .error (ec, ej) =>
      go_enter Tryz.func141, Tryz.ntmps141
      go_wp2_with fail
      refine (take_y HK.out (by omega) 92 h92 (by decide)).mono ?_
      rintro e w1 ⟨rfl, hp, tt⟩
      replace HK := hid hp
      replace TK := hid (TK.out.trans tt (fun _ _ e => e))
      clear hp tt h92 hm c5
      have KF := hid (KE.out _ HK.out)
      unfold EscP thrown at KF
      go_wp2_with fail
      refine KF.out.mono ?_
      rintro e w2 ⟨rfl, tt⟩
      replace TK := hid (TK.out.trans tt (fun _ _ e => e))
      clear tt KE KF
      go_wp2
      exact ⟨rfl, rfl, TK.out⟩
    | .ok (l, o, k1) =>
      go_enter Tryz.func141, Tryz.ntmps141
      go_wp2_with fail
      refine (take_y HK.out (by omega) 92 h92 (by decide)).mono ?_
      rintro e w1 ⟨rfl, hp, tt⟩
      replace HK := hid hp
      replace TK := hid (TK.out.trans tt (fun _ _ e => e))
      clear hp tt h92 hm c5
      have KF := hid (KE.out _ HK.out)
      unfold EscP at KF
      go_wp2_with fail
      refine KF.out.mono ?_
      rintro e w2 ⟨v, rfl, ho, hn, hp, tt⟩
      obtain ⟨a2, c2, hv⟩ := own_shape ho
      subst hv
      have O := hid ho
      have N := hid (fun g e => Nat.le_trans TK.out.size (hn g e))
      replace HK := hid hp
      replace TK := hid (TK.out.trans tt (fun _ _ e => e))
      clear ho hn hp tt KE KF
      go_wp2
      refine bodyPost_ret (results_tmp2 rfl _ _ _) rfl ?_
      exact ⟨_, rfl, O.out, N.out, HK.out, TK.out⟩
  rw [if_neg h92] at HA
  have KT := hid (take_y HK.out (by omega) _ rfl hm)
  generalize lkR X.R k = x at *
  have b1 : (x == -1) = false := beq_eq_false_iff_ne.2 hm
  have b2 : (x == 92) = false := beq_eq_false_iff_ne.2 h92
  have c5 := HK.out.c5
  clear KE hm h92
  go_enter Tryz.func141, Tryz.ntmps141
  go_wp2_with fail
  refine KT.out.mono ?_
  rintro e w1 ⟨rfl, hp, tt⟩
  replace HK := hid hp
  replace TK := hid (TK.out.trans tt (fun _ _ e => e))
  clear hp tt KT c5
  go_wp2_with fail
  refine (only_any x w1).mono ?_
  rintro e w2 ⟨v, rfl, ow⟩
  obtain ⟨a2, c2, hv, _⟩ := ow.slice
  subst hv
  have O := hid ow.own
  have N := hid (fun g e => Nat.le_trans TK.out.size (ow.new g e))
  replace HK := hid (HK.out.new ow.touch)
  replace TK := hid (TK.out.trans ow.touch (fun _ _ e => e.elim))
  clear ow
  go_wp2
  refine bodyPost_ret (results_tmp2 rfl _ _ _) rfl ?_
  rw [← HA.out]
  exact ⟨_, rfl, O.out, N.out, HK.out, TK.out⟩
end Go.Proofs.YtdhhcefmmojcmaaGreatDoor

/- A parser of patterns: an item in brackets; conditions: as told. -/
namespace Go.Proofs.YtdhhcefmmojcmaaGreatDoor
open Go.RowKit
open Go.Lib

theorem cn_single {a : Int} (h0 : 0 ≤ a) (h1 : a ≤ 1114111) : cnR [(a, a)] = [(a, a)] :=
  (cn_is ⟨by simp [inB]; omega, List.pairwise_singleton _ _⟩ (Eqv.refl _)).symm
theorem code_le {R : List Int} {k0 k n k1 : Nat} (h : codeF R k0 k = .ok (n, k1)) : n ≤ 1114111 := by
  unfold codeF at h
  simp only at h
  split at h
  · split at h
    · rename_i e
      cases h
      exact e.2.2
    · cases h
  · split at h
    · rename_i e
      have h1 := val16_lt (runF R isHex 2 k) (fun c hc => run_all 2 k c hc)
      rw [e] at h1
      cases h
      omega
    · cases h
theorem esc_one {R : List Int} {tab : List (ByteArray × List R2)} {k0 k k1 : Nat} {l : List R2} {a : Int} (h : escF R tab k0 k = .ok (l, some a, k1)) : l = [(a, a)] ∧ 0 ≤ a ∧ a ≤ 1114111 := by
  unfold escF escC at h
  rcases ite_is h with ⟨e, h⟩ | ⟨_, h⟩
  · cases h
  rcases ite_is h with ⟨e, h⟩ | ⟨_, h⟩
  · cases h
  rcases ite_is h with ⟨e, h⟩ | ⟨_, h⟩
  · cases h
  rcases ite_is h with ⟨e, h⟩ | ⟨_, h⟩
  · cases h
  rcases ite_is h with ⟨e, h⟩ | ⟨_, h⟩
  · cases h
  rcases ite_is h with ⟨e, h⟩ | ⟨_, h⟩
  · cases h
  rcases ite_is h with ⟨_, h⟩ | ⟨_, h⟩
  · split at h
    · cases h
    · cases h
  rcases ite_is h with ⟨_, h⟩ | ⟨_, h⟩
  · split at h
    · cases h
    · rename_i hn
      have := code_le hn
      cases h
      exact ⟨rfl, by omega, by omega⟩
  rcases ite_is h with ⟨e, h⟩ | ⟨_, h⟩
  · cases h; exact ⟨rfl, by decide, by decide⟩
  rcases ite_is h with ⟨e, h⟩ | ⟨_, h⟩
  · cases h; exact ⟨rfl, by decide, by decide⟩
  rcases ite_is h with ⟨e, h⟩ | ⟨_, h⟩
  · cases h; exact ⟨rfl, by decide, by decide⟩
  rcases ite_is h with ⟨e, h⟩ | ⟨_, h⟩
  · cases h; exact ⟨rfl, by decide, by decide⟩
  rcases ite_is h with ⟨e, h⟩ | ⟨_, h⟩
  · cases h; exact ⟨rfl, by decide, by decide⟩
  rcases ite_is h with ⟨_, h⟩ | ⟨e, h⟩
  · cases h
  · have h1 : ¬ lkR R k < 33 := fun x => e (.inl x)
    have h2 : ¬ lkR R k > 126 := fun x => e (.inr (.inl x))
    cases h
    exact ⟨rfl, by omega, by omega⟩
theorem memb_one {R : List Int} (hR : ∀ c ∈ R, 0 ≤ c ∧ c ≤ 1114111) {tab : List (ByteArray × List R2)} {op k k1 : Nat} {l : List R2} {a : Int} (h : membF R tab op k = .ok (l, some a, k1)) : l = [(a, a)] ∧ 0 ≤ a ∧ a ≤ 1114111 := by
  unfold membF at h
  rcases ite_is h with ⟨_, h⟩ | ⟨e, h⟩
  · cases h
  rcases ite_is h with ⟨_, h⟩ | ⟨_, h⟩
  · exact esc_one h
  · have hk := lk_lt e
    have := hR (lkR R k) (by rw [lk_at hk]; exact List.getElem_mem hk)
    cases h
    exact ⟨rfl, this⟩
set_option maxRecDepth 100000 in
set_option maxHeartbeats 8000000 in
theorem item_any (b : Nat) (X : Px) (k0 k : Nat) (f : Fl) (vn : Value) (ns : List ByteArray) (op : Nat) (w : World) (h : PS w b X k f vn ns op) (hX : X.Good) (hk : k ≤ X.R.length) (hk0 : k0 ≤ X.R.length) :
    Calls Tryz.prog 131 #[.pointer (some ⟨b, 0, none⟩), .int .i64 (k0 : Nat)] w fun e w' => SetP b X f vn ns op w (itemF X.R tableN k0 k) e w' := by
  have HRl := hid hX.lenR
  obtain ⟨A, hA⟩ : ∃ A, A = itemF X.R tableN k0 k := ⟨_, rfl⟩
  have HA := hid hA.symm
  rw [← hA]
  unfold itemF at HA
  clear hA
  have HK := hid h
  have TK := hid (Touch.refl (fun g => g = b) w)
  have KW := hid (fun k1 w' hp => wrong_any b X k1 f vn ns op 22 k w' hp (by have := hX.lenP; omega))
  have KM := hid (member_any b X k0 k f vn ns op w h hX hk hk0)
  have KM2 := hid (fun (k' : Nat) (hk' : k' ≤ X.R.length) w' hp => member_any b X k0 k' f vn ns op w' hp hX hk' hk0)
  have HM1 := hid (fun l o k1 (e : membF X.R tableN k0 k = .ok (l, o, k1)) => (memb_fwd e).2)
  have HM2 := hid (fun l a k1 (e : membF X.R tableN k0 k = .ok (l, some a, k1)) => memb_one hX.nonneg e)
  have HM3 := hid (fun k' l a k1 (e : membF X.R tableN k0 k' = .ok (l, some a, k1)) => And.intro (memb_one hX.nonneg e) (memb_fwd e).2)
  have c5 := HK.out.c5
  clear h hX hk hk0
  generalize membF X.R tableN k0 k = M at *
  match M with
  | .error (ec, ej) =>
    clear KM2 HM1 HM2 HM3 KW
    unfold EscP thrown at KM
    go_enter Tryz.func131, Tryz.ntmps131
    go_wp2_with fail
    refine KM.out.mono ?_
    rintro e w2 ⟨rfl, tt⟩
    replace TK := hid (TK.out.trans tt (fun _ _ e => e))
    clear tt KM
    go_wp2
    refine ⟨rfl, ?_⟩
    rw [← HA.out]
    exact ⟨rfl, TK.out⟩
  | .ok (l, none, k1) =>
    clear KM2 HM1 HM2 HM3 KW
    unfold EscP at KM
    simp only [Option.isSome_none] at KM
    go_enter Tryz.func131, Tryz.ntmps131
    go_wp2_with fail
    refine KM.out.mono ?_
    rintro e w2 ⟨v, rfl, ho, hn, hp, tt⟩
    obtain ⟨a2, c2, hv⟩ := own_shape ho
    subst hv
    have O := hid ho
    have N := hid (fun g e => Nat.le_trans TK.out.size (hn g e))
    replace HK := hid hp
    replace TK := hid (TK.out.trans tt (fun _ _ e => e))
    clear ho hn hp tt KM c5
    go_wp2
    go_ret
    rw [← HA.out]
    exact ⟨_, rfl, O.out, N.out, HK.out, TK.out⟩
  | .ok (l, some a, k1) =>
    obtain ⟨hla, ha0, ha1⟩ := HM2.out l a k1 rfl
    have hk1 := HM1.out l (some a) k1 rfl
    have hk2 : k1 ≤ 1024 := by have := HRl.out; omega
    subst hla
    have HCN := hid (cn_single ha0 ha1)
    unfold EscP at KM
    simp only [Option.isSome_some] at KM
    rw [HCN.out] at KM
    simp only at HA
    have HAB := hid (And.intro ha0 ha1)
    clear HM1 HM2 ha0 ha1
    by_cases h45 : lkR X.R k1 = 45 ∧ lkR X.R (k1 + 1) ≠ 93
    · rw [if_pos h45] at HA
      have hk3 : k1 + 1 ≤ X.R.length := lk_is h45.1 (by decide)
      have KT := hid (fun w' (hp : PS w' b X k1 f vn ns op) => take_y hp (by omega) 45 h45.1 (by decide))
      have KL0 := hid (fun w' (hp : PS w' b X k1 f vn ns op) => look_at b X k1 f vn ns op w' hp (by omega))
      have KL1 := hid (fun w' (hp : PS w' b X k1 f vn ns op) => (look_any b X k1 f vn ns op 1 w' hp (by omega) (by omega)).mono (fun e w'' h => (show e = .returned (.int .i64 (lkR X.R (k1 + 1))) ∧ Touch (fun _ => False) w' w'' from ⟨h.1, by obtain ⟨m, rfl⟩ := h.2; exact (Touch.refl _ _).drewN _⟩)))
      rw [h45.1] at KL0
      have hy : (lkR X.R (k1 + 1) == 93) = false := beq_eq_false_iff_ne.2 h45.2
      have KN := hid (KM2.out (k1 + 1) hk3)
      have HN := hid (HM3.out (k1 + 1))
      generalize lkR X.R (k1 + 1) = y at *
      clear h45 KM2 HM3 hk3
      generalize membF X.R tableN k0 (k1 + 1) = M2 at *
      go_enter Tryz.func131, Tryz.ntmps131
      go_wp2_with fail
      refine KM.out.mono ?_
      rintro e w2 ⟨v, rfl, ho, hn, hp, tt⟩
      obtain ⟨a2, c2, hv⟩ := own_shape ho
      subst hv
      have O := hid ho
      replace HK := hid hp
      replace TK := hid (TK.out.trans tt (fun _ _ e => e))
      clear ho hn hp tt KM c5
      go_wp2_with fail
      refine (KL0.out _ HK.out).mono ?_
      rintro e w3 ⟨rfl, t3⟩
      replace HK := hid (HK.out.new t3)
      replace O := hid (rowKept O.out t3 (fun _ _ e => e))
      replace TK := hid (TK.out.trans t3 (fun _ _ e => e.elim))
      clear t3 KL0
      go_wp2_with fail
      refine (KL1.out _ HK.out).mono ?_
      rintro e w4 ⟨rfl, t4⟩
      replace HK := hid (HK.out.new t4)
      replace O := hid (rowKept O.out t4 (fun _ _ e => e))
      replace TK := hid (TK.out.trans t4 (fun _ _ e => e.elim))
      clear t4 KL1
      go_wp2_with fail
      refine (KT.out _ HK.out).mono ?_
      rintro e w5 ⟨rfl, hp, tt⟩
      replace O := hid (rowKept O.out tt (fun g e s => by subst s; obtain ⟨cs, fr, hh⟩ := own_type O.out g e; rw [HK.out.cells] at hh; cases hh))
      replace HK := hid hp
      replace TK := hid (TK.out.trans tt (fun _ _ e => e))
      clear hp tt KT
      have KN2 := hid (KN.out _ HK.out)
      match M2 with
      | .error (ec, ej) =>
        unfold EscP thrown at KN2
        go_wp2_with fail
        refine KN2.out.mono ?_
        rintro e w6 ⟨rfl, tt⟩
        replace TK := hid (TK.out.trans tt (fun _ _ e => e))
        clear tt KN2 KN KW
        go_wp2
        refine ⟨rfl, ?_⟩
        rw [← HA.out]
        exact ⟨rfl, TK.out⟩
      | .ok (l2, none, k3) =>
        unfold EscP at KN2
        simp only [Option.isSome_none] at KN2
        go_wp2_with fail
        refine KN2.out.mono ?_
        rintro e w6 ⟨v, rfl, ho, hn, hp, tt⟩
        obtain ⟨a6, c6, hv⟩ := own_shape ho
        subst hv
        replace HK := hid hp
        replace TK := hid (TK.out.trans tt (fun _ _ e => e))
        clear ho hn hp tt KN2 KN
        go_wp2_with fail
        go_quiet (fail)
        replace HK := hid (HK.out.new ((Touch.refl _ w6).drewN nq))
        replace TK := hid (TK.out.drewN nq)
        go_wp2_with fail
        refine (KW.out _ _ HK.out).mono ?_
        rintro e w9 ⟨rfl, t9⟩
        replace TK := hid (TK.out.trans t9 (fun _ _ e => e.elim))
        clear t9 KW
        go_wp2
        refine ⟨rfl, ?_⟩
        rw [← HA.out]
        exact ⟨rfl, TK.out⟩
      | .ok (l2, some z, k3) =>
        obtain ⟨⟨hlz, hz0, hz1⟩, hk3⟩ := HN.out l2 z k3 rfl
        subst hlz
        have HCZ := hid (cn_single hz0 hz1)
        unfold EscP at KN2
        simp only [Option.isSome_some] at KN2
        rw [HCZ.out] at KN2
        simp only at HA
        clear hz0 hz1 HN
        go_wp2_with fail
        refine KN2.out.mono ?_
        rintro e w6 ⟨v, rfl, ho, hn, hp, tt⟩
        obtain ⟨a6, c6, hv⟩ := own_shape ho
        subst hv
        replace O := hid (rowKept O.out tt (fun g e s => by subst s; obtain ⟨cs, fr, hh⟩ := own_type O.out g e; rw [HK.out.cells] at hh; cases hh))
        replace HK := hid hp
        replace TK := hid (TK.out.trans tt (fun _ _ e => e))
        obtain ⟨g1, e1⟩ : ∃ g, a2 = some ⟨g, 0, none⟩ := by
          rcases O.out.2 with ⟨_, h0⟩ | ⟨g, cap, cur, hv, _⟩
          · cases h0
          · cases hv; exact ⟨g, rfl⟩
        obtain ⟨g2, e2⟩ : ∃ g, a6 = some ⟨g, 0, none⟩ := by
          rcases ho.2 with ⟨_, h0⟩ | ⟨g, cap, cur, hv, _⟩
          · cases h0
          · cases hv; exact ⟨g, rfl⟩
        subst e1 e2
        have d1 : w6.cell? ⟨g1, 0, none⟩ = some (.int .i64 a) := by
          have := O.out.cells (g := g1) rfl 0 (.int .i64 a) rfl
          rwa [add_g] at this
        have d2 : w6.cell? ⟨g2, 0, none⟩ = some (.int .i64 z) := by
          have := ho.cells (g := g2) rfl 0 (.int .i64 z) rfl
          rwa [add_g] at this
        clear ho hn hp tt KN2 KN O
        by_cases hlt : z < a
        · rw [if_pos hlt] at HA
          go_wp2_with fail
          go_quiet (fail)
          replace HK := hid (HK.out.new ((Touch.refl _ w6).drewN nq))
          replace TK := hid (TK.out.drewN nq)
          go_wp2_with fail
          refine (KW.out _ _ HK.out).mono ?_
          rintro e w9 ⟨rfl, t9⟩
          replace TK := hid (TK.out.trans t9 (fun _ _ e => e.elim))
          clear t9 KW
          go_wp2
          refine ⟨rfl, ?_⟩
          rw [← HA.out]
          exact ⟨rfl, TK.out⟩
        · rw [if_neg hlt] at HA
          clear KW
          go_wp2_with fail
          go_quiet (fail)
          have d3 : (w6.drewN nq).cell? ⟨g1, 0, none⟩ = some (.int .i64 a) := d1
          have d4 : (w6.drewN nq).cell? ⟨g2, 0, none⟩ = some (.int .i64 z) := d2
          replace HK := hid (HK.out.new ((Touch.refl _ w6).drewN nq))
          replace TK := hid (TK.out.drewN nq)
          clear d1 d2
          generalize w6.drewN nq = w7 at *
          go_wp2_with fail
          have Mk0 : True := trivial
          go_region_held3 (fun w' => w'.cell? ⟨g1, 0, none⟩ = some (.int .i64 a) ∧ w'.cell? ⟨g2, 0, none⟩ = some (.int .i64 z)) (first | exact ⟨d3, d4⟩ | exact ⟨d5, d6⟩)
            (first
              | (clear Mk0; go_at_call 113; refine (between_any a z _).mono ?_; rintro e w8 ⟨v, rfl, ow⟩; obtain ⟨a8, c8, hv, _⟩ := ow.slice; subst hv; have d5 := (ow.touch.cell (p := ⟨g1, 0, none⟩) (Lib.lt_of_cell d3) id).trans d3; have d6 := (ow.touch.cell (p := ⟨g2, 0, none⟩) (Lib.lt_of_cell d4) id).trans d4; have O8 := hid ow.own; have N8 := hid (fun g e => Nat.le_trans TK.out.size (ow.new g e)); replace HK := hid (HK.out.new ((Touch.refl _ w7).drew.trans ow.touch (fun _ _ e => e))); replace TK := hid (TK.out.trans ((Touch.refl (fun _ => False) w7).drew.trans ow.touch (fun _ _ e => e)) (fun _ _ e => e.elim)); clear ow))
          go_wp2
          go_ret
          rw [← HA.out]
          exact ⟨_, rfl, O8.out, N8.out, HK.out, TK.out⟩
    · rw [if_neg h45] at HA
      clear KM2 HM3 KW
      have KL0 := hid (fun w' (hp : PS w' b X k1 f vn ns op) => look_at b X k1 f vn ns op w' hp (by omega))
      have KL1 := hid (fun w' (hp : PS w' b X k1 f vn ns op) => (look_any b X k1 f vn ns op 1 w' hp (by omega) (by omega)).mono (fun e w'' h => (show e = .returned (.int .i64 (lkR X.R (k1 + 1))) ∧ Touch (fun _ => False) w' w'' from ⟨h.1, by obtain ⟨m, rfl⟩ := h.2; exact (Touch.refl _ _).drewN _⟩)))
      by_cases e45 : lkR X.R k1 = 45
      · have h93 : lkR X.R (k1 + 1) = 93 := Decidable.byContradiction fun hh => h45 ⟨e45, hh⟩
        rw [e45] at KL0
        rw [h93] at KL1
        clear h45 e45 h93
        go_enter Tryz.func131, Tryz.ntmps131
        go_wp2_with fail
        refine KM.out.mono ?_
        rintro e w2 ⟨v, rfl, ho, hn, hp, tt⟩
        obtain ⟨a2, c2, hv⟩ := own_shape ho
        subst hv
        have N := hid (fun g e => Nat.le_trans TK.out.size (hn g e))
        have O := hid ho
        replace HK := hid hp
        replace TK := hid (TK.out.trans tt (fun _ _ e => e))
        clear ho hn hp tt KM c5
        go_wp2_with fail
        refine (KL0.out _ HK.out).mono ?_
        rintro e w3 ⟨rfl, t3⟩
        replace HK := hid (HK.out.new t3)
        replace O := hid (rowKept O.out t3 (fun _ _ e => e))
        replace TK := hid (TK.out.trans t3 (fun _ _ e => e.elim))
        clear t3 KL0
        go_wp2_with fail
        refine (KL1.out _ HK.out).mono ?_
        rintro e w4 ⟨rfl, t4⟩
        replace HK := hid (HK.out.new t4)
        replace O := hid (rowKept O.out t4 (fun _ _ e => e))
        replace TK := hid (TK.out.trans t4 (fun _ _ e => e.elim))
        clear t4 KL1
        go_wp2
        go_ret
        rw [← HA.out]
        refine ⟨_, rfl, ?_, N.out, HK.out, TK.out⟩
        rw [HCN.out]
        exact O.out
      · have hy : (lkR X.R k1 == 45) = false := beq_eq_false_iff_ne.2 e45
        have hy2 : (lkR X.R k1 != 45) = true := bne_iff_ne.2 e45
        clear KL1
        generalize lkR X.R k1 = y at *
        clear h45 e45
        go_enter Tryz.func131, Tryz.ntmps131
        go_wp2_with fail
        refine KM.out.mono ?_
        rintro e w2 ⟨v, rfl, ho, hn, hp, tt⟩
        obtain ⟨a2, c2, hv⟩ := own_shape ho
        subst hv
        have N := hid (fun g e => Nat.le_trans TK.out.size (hn g e))
        have O := hid ho
        replace HK := hid hp
        replace TK := hid (TK.out.trans tt (fun _ _ e => e))
        clear ho hn hp tt KM c5
        go_wp2_with fail
        refine (KL0.out _ HK.out).mono ?_
        rintro e w3 ⟨rfl, t3⟩
        replace HK := hid (HK.out.new t3)
        replace O := hid (rowKept O.out t3 (fun _ _ e => e))
        replace TK := hid (TK.out.trans t3 (fun _ _ e => e.elim))
        clear t3 KL0
        go_wp2
        go_ret
        rw [← HA.out]
        refine ⟨_, rfl, ?_, N.out, HK.out, TK.out⟩
        rw [HCN.out]
        exact O.out
end Go.Proofs.YtdhhcefmmojcmaaGreatDoor
