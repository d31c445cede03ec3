/- Texts of this proof, one behind the other: what each says stands ahead of it. -/
import Derived.Test.YtjpmjcadnnglnaaDoorQWh
import Derived.Test.YtjpmjcadnnglnaaDoorWe
/- The document's parser of JSON: value: numbers, texts; conditions: as told. -/
namespace Go.Proofs.YtjpmjcadnnglnaaDoor
open Go.RowKit
open Go.Lib

theorem num_bad {s : ByteArray} {t : Nat} (h1 : lk s t ≠ 45) (h2 : ¬ (48 ≤ lk s t ∧ lk s t ≤ 57)) : numE s t = .error t := by
  have e : part1 s t = .error t := by
    unfold part1
    rw [show stp s t 45 = t from if_neg h1, if_neg (by omega)]
    unfold dgE
    rw [show dgn (s.data.toList.drop t) = 0 from by rw [dg_at, if_neg h2]]
    rfl
  unfold numE
  rw [e]
theorem num_err_le {s : ByteArray} {t k : Nat} (h : numE s t = .error k) (ht : t ≤ s.size) : k ≤ s.size := by
  have hd : ∀ {x y : Nat}, dgE s x = .error y → x ≤ s.size → y ≤ s.size := fun h hx => by rw [dgE_at h]; exact hx
  unfold numE at h
  split at h
  · rename_i e h1
    cases h
    unfold part1 at h1
    split at h1
    · cases h1
    · exact hd h1 (stp_le s t 45 ht).2
  · rename_i a h1
    have ha := part1_le ht h1
    split at h
    · rename_i e h2
      cases h
      unfold part2 at h2
      split at h2
      · rename_i hc
        have := (lk_is (c := 46) hc).1
        exact hd h2 (by omega)
      · cases h2
    · rename_i c h2
      have hc := part2_le ha h2
      unfold part3 at h
      split at h
      · rename_i hx
        have := (lk_is (c := 101) hx).1
        exact hd h (sgn_le (by omega))
      · split at h
        · rename_i hx
          have := (lk_is (c := 69) hx).1
          exact hd h (sgn_le (by omega))
        · cases h
theorem num_more {s : ByteArray} {t u : Nat} (h : numE s t = .ok u) : t + 1 ≤ u := by
  unfold numE at h
  split at h
  · cases h
  · rename_i a h1
    have g1 : t + 1 ≤ a := by
      have hs := stp_fwd s t 45
      unfold part1 at h1
      split at h1
      · cases h1; omega
      · unfold dgE at h1
        split at h1
        · cases h1
        · cases h1; omega
    split at h
    · cases h
    · rename_i c h2
      have g2 : a ≤ c := by
        unfold part2 at h2
        split at h2
        · have := dgE_fwd h2; omega
        · cases h2; omega
      have hsg : ∀ x, x ≤ sgn s x := fun x => by unfold sgn; split; omega; exact stp_fwd s x 45
      unfold part3 at h
      split at h
      · have := dgE_fwd h; have := hsg (c + 1); omega
      · split at h
        · have := dgE_fwd h; have := hsg (c + 1); omega
        · cases h; omega
set_option maxRecDepth 100000 in
set_option maxHeartbeats 8000000 in
theorem rvalue_num (lo b : Nat) (s : ByteArray) (t : Nat) (av : Option Addr) (nv cv : Nat) (ds : List Cel) (deep : Nat) (w : World) (h : RS w lo b s t (.slice av nv cv) 0 0 ds) (hs : s.size ≤ 1048576) (ht : t ≤ s.size) (hd : ds.length ≤ t) (hn : noSign (lk s (bl s t))) :
    Calls Tryd.prog 18 #[.pointer (some ⟨b, 0, none⟩), .int .i64 (deep : Nat)] w fun e w' => RVP w lo b s t (.slice av nv cv) ds (numbE s (bl s t)) e w' := by
  have hbl := bl_le s t ht
  have hbg := bl_ge s t
  have KB := hid (rblanks_good b s t (.slice av nv cv) w h.rr hs ht)
  have KH := hid (fun w' (hp : Rr w' b s (bl s t) (.slice av nv cv) 0 0) => here_good b s (bl s t) (.slice av nv cv) w' hp (by omega) hs)
  have KN := hid (fun w' (hp : Rr w' b s (bl s t) (.slice av nv cv) 0 0) => rnumber_good b s (bl s t) (.slice av nv cv) w' hp hs hbl)
  have HF := hid (fun u => num_fwd (s := s) (t := bl s t) (u := u) hbl)
  have HG := hid (fun k (h : numE s (bl s t) = .error k) => num_err_le h hbl)
  have HBAD := hid (fun h1 h2 => num_bad (s := s) (t := bl s t) h1 h2)
  have HLT := hid (fun u (h : numE s (bl s t) = .ok u) => num_more h)
  obtain ⟨X, hX⟩ : ∃ X, X = numbE s (bl s t) := ⟨_, rfl⟩
  have HX := hid hX.symm
  rw [← hX]
  unfold numbE at HX
  have HS := hid h
  clear h hX
  generalize bl s t = t0 at *
  generalize hxx : lk s t0 = x at *
  clear hxx
  obtain ⟨n1, n2, n3, n4, n5, n6⟩ := hn
  have b1 : (x == 110) = false := beq_eq_false_iff_ne.2 n1
  have b2 : (x == 102) = false := beq_eq_false_iff_ne.2 n2
  have b3 : (x == 116) = false := beq_eq_false_iff_ne.2 n3
  have b4 : (x == 34) = false := beq_eq_false_iff_ne.2 n4
  have b5 : (x == 91) = false := beq_eq_false_iff_ne.2 n5
  have b6 : (x == 123) = false := beq_eq_false_iff_ne.2 n6
  clear n1 n2 n3 n4 n5 n6
  go_enter Tryd.func18, Tryd.ntmps18
  go_wp2_with fail
  refine KB.out.mono ?_
  rintro e w1 ⟨rfl, hr, tt⟩
  have S1 := hid (HS.out.goes hr tt)
  have T1 := hid tt
  clear hr tt KB
  have K1 := hid (KH.out _ S1.out.rr)
  go_wp2_with fail
  refine K1.out.mono ?_
  rintro e w2 ⟨rfl, tt⟩
  have S2 := hid (S1.out.new tt)
  have T2 := hid (T1.out.trans tt (fun _ _ e => e.elim))
  clear tt K1 S1 T1
  by_cases isn : x ≠ 45 ∧ ¬ (48 ≤ x ∧ x ≤ 57)
  · have hbad := HBAD.out isn.1 isn.2
    rw [hbad] at HX
    have KF := hid (fail_good b s t0 (.slice av nv cv) 20 _ S2.out.rr)
    have c45 : (x != 45) = true := by simpa using isn.1
    by_cases h48 : x < 48
    · go_wp2_with fail
      refine KF.out.mono ?_
      rintro e w3 ⟨rfl, hr, tt⟩
      have S3 := hid (S2.out.goes hr tt)
      have T3 := hid (T2.out.trans tt (fun _ _ e => e))
      clear hr tt KF
      go_wp2
      go_ret
      rw [← HX.out]
      exact ⟨_, t0, av, nv, cv, ds, rfl, by omega, S3.out, .inl rfl, T3.out.mono (fun _ _ e => .inl e), by omega⟩
    · have h57 : (57 : Int) < x := by omega
      go_wp2_with fail
      refine KF.out.mono ?_
      rintro e w3 ⟨rfl, hr, tt⟩
      have S3 := hid (S2.out.goes hr tt)
      have T3 := hid (T2.out.trans tt (fun _ _ e => e))
      clear hr tt KF
      go_wp2
      go_ret
      rw [← HX.out]
      exact ⟨_, t0, av, nv, cv, ds, rfl, by omega, S3.out, .inl rfl, T3.out.mono (fun _ _ e => .inl e), by omega⟩
  · have K2 := hid (KN.out _ S2.out.rr)
    have HTOK := hid (show x = 45 ∨ (x ≠ 45 ∧ 48 ≤ x ∧ x ≤ 57) from by omega)
    clear isn
    rcases HTOK.out with h45 | ⟨h45, h48, h57⟩
    · subst h45
      cases hR : numE s t0 with
      | ok u =>
        have hu := HF.out u hR
        have hum := HLT.out u hR
        rw [hR] at K2 HX
        unfold RNumR at K2
        clear hR
        go_wp2_with fail
        refine K2.out.mono ?_
        rintro e w3 ⟨rfl, hr, tt⟩
        have S3 := hid (S2.out.goes hr tt)
        have T3 := hid (T2.out.trans tt (fun _ _ e => e))
        clear hr tt K2 S2 T2
        generalize s.extract t0 u = O at *
        have K3 := hid (S3.out.put (by omega) 3 O none 0 0 none 0 0)
        go_wp2_with fail
        refine K3.out.mono ?_
        rintro e w4 ⟨rfl, a', n', c', hs4, ho, tt⟩
        have S4 := hid hs4
        have T4 := hid (Touch.trans (S := fun k => k = b ∨ (Value.slice av nv cv).ownBlock = some k) (T3.out.mono (fun _ _ e => .inl e)) tt (fun _ _ e => e))
        have HO := hid (show _ ∨ _ from ho.imp id (fun ⟨g, e1, e2⟩ => (⟨g, e1, Nat.le_trans T3.out.size e2⟩ : ∃ g, (Value.slice a' n' c').ownBlock = some g ∧ w.heap.size ≤ g)))
        clear hs4 ho tt K3
        go_wp2
        go_ret
        rw [← HX.out]
        exact ⟨ds.length, a', n', c', _, fun _ => False, rfl, S4.out, HO.out, DT.leaf _ _ _ _ _, fun g e => e.elim, T4.out, by simp; omega⟩
      | error k =>
        have hk := HG.out k hR
        rw [hR] at K2 HX
        unfold RNumR at K2
        clear hR
        go_wp2_with fail
        refine K2.out.mono ?_
        rintro e w3 ⟨O, u, rfl, hu, hr, tt⟩
        have S3 := hid (S2.out.goes hr tt)
        have T3 := hid (T2.out.trans tt (fun _ _ e => e))
        clear hr tt K2 S2 T2
        have K3 := hid (S3.out.put (by omega) 3 O none 0 0 none 0 0)
        go_wp2_with fail
        refine K3.out.mono ?_
        rintro e w4 ⟨rfl, a', n', c', hs4, ho, tt⟩
        have S4 := hid hs4
        have T4 := hid (Touch.trans (S := fun k => k = b ∨ (Value.slice av nv cv).ownBlock = some k) (T3.out.mono (fun _ _ e => .inl e)) tt (fun _ _ e => e))
        have HO := hid (show _ ∨ _ from ho.imp id (fun ⟨g, e1, e2⟩ => (⟨g, e1, Nat.le_trans T3.out.size e2⟩ : ∃ g, (Value.slice a' n' c').ownBlock = some g ∧ w.heap.size ≤ g)))
        clear hs4 ho tt K3
        go_wp2
        go_ret
        rw [← HX.out]
        exact ⟨_, u, a', n', c', _, rfl, by omega, S4.out, HO.out, T4.out, by simp; omega⟩
    · have c45 : (x != 45) = true := by simpa using h45
      have c48 : ¬ x < 48 := by omega
      have c57 : ¬ (57 : Int) < x := by omega
      cases hR : numE s t0 with
      | ok u =>
        have hu := HF.out u hR
        have hum := HLT.out u hR
        rw [hR] at K2 HX
        unfold RNumR at K2
        clear hR
        go_wp2_with fail
        refine K2.out.mono ?_
        rintro e w3 ⟨rfl, hr, tt⟩
        have S3 := hid (S2.out.goes hr tt)
        have T3 := hid (T2.out.trans tt (fun _ _ e => e))
        clear hr tt K2 S2 T2
        generalize s.extract t0 u = O at *
        have K3 := hid (S3.out.put (by omega) 3 O none 0 0 none 0 0)
        go_wp2_with fail
        refine K3.out.mono ?_
        rintro e w4 ⟨rfl, a', n', c', hs4, ho, tt⟩
        have S4 := hid hs4
        have T4 := hid (Touch.trans (S := fun k => k = b ∨ (Value.slice av nv cv).ownBlock = some k) (T3.out.mono (fun _ _ e => .inl e)) tt (fun _ _ e => e))
        have HO := hid (show _ ∨ _ from ho.imp id (fun ⟨g, e1, e2⟩ => (⟨g, e1, Nat.le_trans T3.out.size e2⟩ : ∃ g, (Value.slice a' n' c').ownBlock = some g ∧ w.heap.size ≤ g)))
        clear hs4 ho tt K3
        go_wp2
        go_ret
        rw [← HX.out]
        exact ⟨ds.length, a', n', c', _, fun _ => False, rfl, S4.out, HO.out, DT.leaf _ _ _ _ _, fun g e => e.elim, T4.out, by simp; omega⟩
      | error k =>
        have hk := HG.out k hR
        rw [hR] at K2 HX
        unfold RNumR at K2
        clear hR
        go_wp2_with fail
        refine K2.out.mono ?_
        rintro e w3 ⟨O, u, rfl, hu, hr, tt⟩
        have S3 := hid (S2.out.goes hr tt)
        have T3 := hid (T2.out.trans tt (fun _ _ e => e))
        clear hr tt K2 S2 T2
        have K3 := hid (S3.out.put (by omega) 3 O none 0 0 none 0 0)
        go_wp2_with fail
        refine K3.out.mono ?_
        rintro e w4 ⟨rfl, a', n', c', hs4, ho, tt⟩
        have S4 := hid hs4
        have T4 := hid (Touch.trans (S := fun k => k = b ∨ (Value.slice av nv cv).ownBlock = some k) (T3.out.mono (fun _ _ e => .inl e)) tt (fun _ _ e => e))
        have HO := hid (show _ ∨ _ from ho.imp id (fun ⟨g, e1, e2⟩ => (⟨g, e1, Nat.le_trans T3.out.size e2⟩ : ∃ g, (Value.slice a' n' c').ownBlock = some g ∧ w.heap.size ≤ g)))
        clear hs4 ho tt K3
        go_wp2
        go_ret
        rw [← HX.out]
        exact ⟨_, u, a', n', c', _, rfl, by omega, S4.out, HO.out, T4.out, by simp; omega⟩
end Go.Proofs.YtjpmjcadnnglnaaDoor

/- The document's parser of JSON: value: texts; conditions: as told. -/
namespace Go.Proofs.YtjpmjcadnnglnaaDoor
open Go.RowKit
open Go.Lib

theorem rtext_good (b : Nat) (s : ByteArray) (t : Nat) (V : Value) (w : World) (h : Rr w b s t V 0 0) (hs : s.size ≤ 1048576) (ht : t ≤ s.size) :
    Calls Tryd.prog 33 #[.pointer (some ⟨b, 0, none⟩)] w fun e w' => RTxtR s b V w (quotE s t) e w' := by
  rw [quot_quot2 s t ht]
  exact text_loop b s V w hs _ w t h ht rfl rfl
theorem qd_err (s : ByteArray) : ∀ (k t : Nat) (out : Bs) (e : Nat), t ≤ s.size → s.size + 1 ≤ t + k → tdF s k t out = .error e → e ≤ s.size
  | 0, t, out, e, h1, h2, h => by omega
  | k + 1, t, out, e, h1, h2, h => by
    rw [tdF] at h
    split at h
    · cases h
    split at h
    · cases h
      exact h1
    rename_i n32
    have hlt : t < s.size := lk_in2 (by omega)
    split at h
    · split at h
      · rename_i h117
        have hl1 := (lk_is (c := 117) h117).1
        split at h
        · rename_i e' he
          cases h
          unfold uStep at he
          split at he
          · rename_i k' hk
            cases he
            exact (unit_err (show unF s 4 (t + 2) 0 = .error e from hk) (by omega)).2
          · rename_i a v hv
            have hk := unitE_ok hv
            split at he
            · rename_i hiu
              obtain ⟨_, _, hsz, _⟩ := isU_iff hiu.2
              split at he
              · rename_i k' hk2
                cases he
                exact (unit_err (show unF s 4 (t + 2 + 6) 0 = .error e from hk2) (by omega)).2
              · split at he <;> cases he
            · cases he
        · rename_i x u hu
          have := ustep_ok hu
          exact qd_err s k u _ e (by omega) (by omega) h
      · split at h
        · rename_i c hc
          have : t + 1 < s.size := lk_in2 (by
            intro e
            rw [e] at hc
            unfold letB at hc
            rw [if_pos rfl] at hc
            cases hc)
          exact qd_err s k (t + 2) _ e (by omega) (by omega) h
        · cases h
          omega
    · exact qd_err s k (t + 1) _ e (by omega) (by omega) h
theorem quot_err {s : ByteArray} {t e : Nat} (h : quotE s t = .error e) (ht : t ≤ s.size) : e ≤ s.size := by
  rw [quot_quot2 s t ht] at h
  unfold quot2 at h
  split at h
  · rename_i k hk
    cases h
    have := needE_le hk
    omega
  · rename_i u hu
    have := need_ok s [34] t u ht hu
    exact qd_err s _ u [] e this.2 (by omega) h
theorem quot_more {s : ByteArray} {t u : Nat} {o : Bs} (h : quotE s t = .ok (o, u)) (ht : t ≤ s.size) : t + 1 ≤ u := by
  unfold quotE at h
  split at h
  · cases h
  · rename_i v hv
    have := need_ok s [34] t v ht hv
    have := qd_ok s _ v [] o u (by omega) h
    simp only [List.length_cons, List.length_nil] at *
    omega
set_option maxRecDepth 100000 in
set_option maxHeartbeats 8000000 in
theorem rvalue_text (lo b : Nat) (s : ByteArray) (t : Nat) (av : Option Addr) (nv cv : Nat) (ds : List Cel) (deep : Nat) (w : World) (h : RS w lo b s t (.slice av nv cv) 0 0 ds) (hs : s.size ≤ 1048576) (ht : t ≤ s.size) (hd : ds.length ≤ t) (hc : lk s (bl s t) = 34) :
    Calls Tryd.prog 18 #[.pointer (some ⟨b, 0, none⟩), .int .i64 (deep : Nat)] w fun e w' => RVP w lo b s t (.slice av nv cv) ds (textE s (bl s t)) e w' := by
  have hbl := bl_le s t ht
  have hbg := bl_ge s t
  have KB := hid (rblanks_good b s t (.slice av nv cv) w h.rr hs ht)
  have KH := hid (fun w' (hp : Rr w' b s (bl s t) (.slice av nv cv) 0 0) => here_good b s (bl s t) (.slice av nv cv) w' hp (by omega) hs)
  rw [hc] at KH
  have KN := hid (fun w' (hp : Rr w' b s (bl s t) (.slice av nv cv) 0 0) => rtext_good b s (bl s t) (.slice av nv cv) w' hp hs hbl)
  have HF := hid (fun o u => quot_fwd (s := s) (t := bl s t) (u := u) (o := o) hbl)
  have HG := hid (fun k (h : quotE s (bl s t) = .error k) => quot_err h hbl)
  have HM := hid (fun o u (h : quotE s (bl s t) = .ok (o, u)) => quot_more h hbl)
  obtain ⟨X, hX⟩ : ∃ X, X = textE s (bl s t) := ⟨_, rfl⟩
  have HX := hid hX.symm
  rw [← hX]
  unfold textE at HX
  have HS := hid h
  clear h hX
  clear hc
  generalize bl s t = t0 at *
  go_enter Tryd.func18, Tryd.ntmps18
  go_wp2_with fail
  refine KB.out.mono ?_
  rintro e w1 ⟨rfl, hr, tt⟩
  have S1 := hid (HS.out.goes hr tt)
  have T1 := hid tt
  clear hr tt KB
  have K1 := hid (KH.out _ S1.out.rr)
  go_wp2_with fail
  refine K1.out.mono ?_
  rintro e w2 ⟨rfl, tt⟩
  have S2 := hid (S1.out.new tt)
  have T2 := hid (T1.out.trans tt (fun _ _ e => e.elim))
  clear tt K1 S1 T1
  have K2 := hid (KN.out _ S2.out.rr)
  cases hR : quotE s t0 with
  | ok ou =>
    obtain ⟨o, u⟩ := ou
    have hu := HF.out o u hR
    have hum := HM.out o u hR
    rw [hR] at K2 HX
    unfold RTxtR at K2
    clear hR
    replace HX := hid (show Except.ok (JV.node 4 ⟨o.toArray⟩ [] [], u) = X from HX.out)
    obtain ⟨O, hO⟩ : ∃ O : ByteArray, O = ⟨o.toArray⟩ := ⟨_, rfl⟩
    replace K2 := hid (show Calls Tryd.prog 33 #[.pointer (some ⟨b, 0, none⟩)] w2 fun e w' => e = .returned (.string ⟨o.toArray⟩) ∧ Rr w' b s u (.slice av nv cv) 0 0 ∧ Touch (fun k => k = b) w2 w' from K2.out)
    rw [← hO] at K2 HX
    clear hO HM HF HG
    go_wp2_with fail
    refine K2.out.mono ?_
    rintro e w3 ⟨rfl, hr, tt⟩
    have S3 := hid (S2.out.goes hr tt)
    have T3 := hid (T2.out.trans tt (fun _ _ e => e))
    clear hr tt K2 S2 T2
    have K3 := hid (S3.out.put (by omega) 4 O none 0 0 none 0 0)
    go_wp2_with fail
    refine K3.out.mono ?_
    rintro e w4 ⟨rfl, a', n', c', hs4, ho, tt⟩
    have S4 := hid hs4
    have T4 := hid (Touch.trans (S := fun k => k = b ∨ (Value.slice av nv cv).ownBlock = some k) (T3.out.mono (fun _ _ e => .inl e)) tt (fun _ _ e => e))
    have HO := hid (show _ ∨ _ from ho.imp id (fun ⟨g, e1, e2⟩ => (⟨g, e1, Nat.le_trans T3.out.size e2⟩ : ∃ g, (Value.slice a' n' c').ownBlock = some g ∧ w.heap.size ≤ g)))
    clear hs4 ho tt K3
    go_wp2
    go_ret
    rw [← HX.out]
    exact ⟨ds.length, a', n', c', _, fun _ => False, rfl, S4.out, HO.out, DT.leaf _ _ _ _ _, fun g e => e.elim, T4.out, by simp; omega⟩
  | error k =>
    have hk := HG.out k hR
    rw [hR] at K2 HX
    unfold RTxtR at K2
    clear hR
    go_wp2_with fail
    refine K2.out.mono ?_
    rintro e w3 ⟨O, u, rfl, hu, hr, tt⟩
    have S3 := hid (S2.out.goes hr tt)
    have T3 := hid (T2.out.trans tt (fun _ _ e => e))
    clear hr tt K2 S2 T2
    have K3 := hid (S3.out.put (by omega) 4 O none 0 0 none 0 0)
    go_wp2_with fail
    refine K3.out.mono ?_
    rintro e w4 ⟨rfl, a', n', c', hs4, ho, tt⟩
    have S4 := hid hs4
    have T4 := hid (Touch.trans (S := fun k => k = b ∨ (Value.slice av nv cv).ownBlock = some k) (T3.out.mono (fun _ _ e => .inl e)) tt (fun _ _ e => e))
    have HO := hid (show _ ∨ _ from ho.imp id (fun ⟨g, e1, e2⟩ => (⟨g, e1, Nat.le_trans T3.out.size e2⟩ : ∃ g, (Value.slice a' n' c').ownBlock = some g ∧ w.heap.size ≤ g)))
    clear hs4 ho tt K3
    go_wp2
    go_ret
    rw [← HX.out]
    exact ⟨_, u, a', n', c', _, rfl, by omega, S4.out, HO.out, T4.out, by simp; omega⟩
end Go.Proofs.YtjpmjcadnnglnaaDoor

/- The document's parser of JSON: value: brackets; conditions: as told. -/
namespace Go.Proofs.YtjpmjcadnnglnaaDoor
open Go.RowKit
open Go.Lib

theorem RVP.back {w w1 w' : World} {lo b : Nat} {s : ByteArray} {t t1 : Nat} {V : Value} {ds : List Cel} {r : JR (JV × Nat)} {e : Ending} (h : RVP w1 lo b s t1 V ds r e w') (k : Touch (fun k => k = b) w w1) (ht : t ≤ t1) : RVP w lo b s t V ds r e w' := by
  match r, h with
  | .ok (x, u), ⟨p, a', n', c', es, B, h1, h2, h3, h4, h5, h6, h7⟩ =>
    exact ⟨p, a', n', c', es, B, h1, h2, h3.imp id (fun ⟨g, e1, e2⟩ => ⟨g, e1, Nat.le_trans k.size e2⟩), h4, fun g e => ⟨Nat.le_trans k.size (h5 g e).1, (h5 g e).2⟩, Touch.trans (S := fun j => j = b ∨ V.ownBlock = some j) (k.mono (fun _ _ e => .inl e)) h6 (fun _ _ e => e), by omega⟩
  | .error (c, j), ⟨q, u, a', n', c', ds', h1, h2, h3, h4, h5, h6⟩ =>
    exact ⟨q, u, a', n', c', ds', h1, h2, h3, h4.imp id (fun ⟨g, e1, e2⟩ => ⟨g, e1, Nat.le_trans k.size e2⟩), Touch.trans (S := fun j => j = b ∨ V.ownBlock = some j) (k.mono (fun _ _ e => .inl e)) h5 (fun _ _ e => e), h6⟩
theorem RVP.ret {w w' : World} {lo b : Nat} {s : ByteArray} {t : Nat} {V : Value} {ds : List Cel} {r : JR (JV × Nat)} {e : Ending} (h : RVP w lo b s t V ds r e w') : ∃ q : Int, e = .returned (.int .i64 q) := by
  match r, h with
  | .ok (x, u), ⟨p, a', n', c', es, B, h1, _⟩ => exact ⟨_, h1⟩
  | .error (c, j), ⟨q, u, a', n', c', ds', h1, _⟩ => exact ⟨_, h1⟩
set_option maxRecDepth 100000 in
set_option maxHeartbeats 8000000 in
theorem rvalue_list (lo b : Nat) (s : ByteArray) (t : Nat) (av : Option Addr) (nv cv : Nat) (ds : List Cel) (deep : Nat) (sub : Option (Nat → JR (JV × Nat))) (w : World) (h : RS w lo b s t (.slice av nv cv) 0 0 ds) (hs : s.size ≤ 1048576) (ht : t ≤ s.size) (hd : ds.length ≤ t) (hc : lk s (bl s t) = 91) (hdp : deep ≤ 32) (hN : sub = none → deep = 32)
    (KK : ∀ f, sub = some f → deep < 32 ∧ ∀ w', RS w' lo b s (bl s t + 1) (.slice av nv cv) 0 0 ds → Calls Tryd.prog 34 #[.pointer (some ⟨b, 0, none⟩), .int .i64 93, .int .i64 ((deep : Int) + 1)] w' fun e w'' => RVP w' lo b s (bl s t + 1) (.slice av nv cv) ds (nodeE s 5 93 (some f) (bl s t)) e w'') :
    Calls Tryd.prog 18 #[.pointer (some ⟨b, 0, none⟩), .int .i64 (deep : Nat)] w fun e w' => RVP w lo b s t (.slice av nv cv) ds (nodeE s 5 93 sub (bl s t)) e w' := by
  have hbl := bl_le s t ht
  have hbg := bl_ge s t
  have hlt := (lk_is (c := 91) hc).1
  have KB := hid (rblanks_good b s t (.slice av nv cv) w h.rr hs ht)
  have KH := hid (fun w' (hp : Rr w' b s (bl s t) (.slice av nv cv) 0 0) => here_good b s (bl s t) (.slice av nv cv) w' hp (by omega) hs)
  rw [hc] at KH
  have HK := hid KK
  have HND := hid hN
  have HS := hid h
  clear h hc KK hN
  generalize bl s t = t0 at *
  go_enter Tryd.func18, Tryd.ntmps18
  go_wp2_with fail
  refine KB.out.mono ?_
  rintro e w1 ⟨rfl, hr, tt⟩
  have S1 := hid (HS.out.goes hr tt)
  have T1 := hid tt
  clear hr tt KB
  have K1 := hid (KH.out _ S1.out.rr)
  go_wp2_with fail
  refine K1.out.mono ?_
  rintro e w2 ⟨rfl, tt⟩
  have S2 := hid (S1.out.new tt)
  have T2 := hid (T1.out.trans tt (fun _ _ e => e.elim))
  clear tt K1 S1 T1
  cases sub with
  | none =>
    have h32 := HND.out rfl
    have hI : (31 : Int) < (deep : Int) := by omega
    have KF := hid (fail_good b s t0 (.slice av nv cv) 21 _ S2.out.rr)
    go_wp2_with fail
    refine KF.out.mono ?_
    rintro e w3 ⟨rfl, hr, tt⟩
    have S3 := hid (S2.out.goes hr tt)
    have T3 := hid (T2.out.trans tt (fun _ _ e => e))
    clear hr tt KF
    go_wp2
    go_ret
    exact ⟨_, t0, av, nv, cv, ds, rfl, by omega, S3.out, .inl rfl, T3.out.mono (fun _ _ e => .inl e), by omega⟩
  | some f =>
    obtain ⟨hd32, KN⟩ := HK.out f rfl
    have KNH := hid KN
    have hI : ¬ (31 : Int) < (deep : Int) := by omega
    have c1 := S2.out.rr.c1
    have f1 := S2.out.rr.fr (i := 1)
    clear KN HK HND
    go_wp2_with fail
    have TS := Touch.setCell (S := fun k => k = b) (Touch.refl _ w2) (p := ⟨b, 1, none⟩) (fun _ => rfl) (.int .i64 ((t0 : Int) + 1))
    have S3 := hid (show RS (w2.setCell ⟨b, 1, none⟩ (.int .i64 ((t0 : Int) + 1))) lo b s (t0 + 1) (.slice av nv cv) 0 0 ds from S2.out.goes (S2.out.rr.at' (t0 + 1)) TS)
    have T3 := hid (T2.out.trans TS (fun _ _ e => e))
    clear TS c1 f1
    generalize w2.setCell ⟨b, 1, none⟩ (.int .i64 ((t0 : Int) + 1)) = w3 at *
    refine (KNH.out w3 S3.out).mono ?_
    rintro e w4 hv
    have HV := hid (hv.back T3.out (by omega : t ≤ t0 + 1))
    obtain ⟨q, rfl⟩ := hv.ret
    clear hv KNH
    go_wp2
    go_ret
    exact HV.out
set_option maxRecDepth 100000 in
set_option maxHeartbeats 8000000 in
theorem rvalue_obj (lo b : Nat) (s : ByteArray) (t : Nat) (av : Option Addr) (nv cv : Nat) (ds : List Cel) (deep : Nat) (sub : Option (Nat → JR (JV × Nat))) (w : World) (h : RS w lo b s t (.slice av nv cv) 0 0 ds) (hs : s.size ≤ 1048576) (ht : t ≤ s.size) (hd : ds.length ≤ t) (hc : lk s (bl s t) = 123) (hdp : deep ≤ 32) (hN : sub = none → deep = 32)
    (KK : ∀ f, sub = some f → deep < 32 ∧ ∀ w', RS w' lo b s (bl s t + 1) (.slice av nv cv) 0 0 ds → Calls Tryd.prog 34 #[.pointer (some ⟨b, 0, none⟩), .int .i64 125, .int .i64 ((deep : Int) + 1)] w' fun e w'' => RVP w' lo b s (bl s t + 1) (.slice av nv cv) ds (nodeE s 6 125 (some f) (bl s t)) e w'') :
    Calls Tryd.prog 18 #[.pointer (some ⟨b, 0, none⟩), .int .i64 (deep : Nat)] w fun e w' => RVP w lo b s t (.slice av nv cv) ds (nodeE s 6 125 sub (bl s t)) e w' := by
  have hbl := bl_le s t ht
  have hbg := bl_ge s t
  have hlt := (lk_is (c := 123) hc).1
  have KB := hid (rblanks_good b s t (.slice av nv cv) w h.rr hs ht)
  have KH := hid (fun w' (hp : Rr w' b s (bl s t) (.slice av nv cv) 0 0) => here_good b s (bl s t) (.slice av nv cv) w' hp (by omega) hs)
  rw [hc] at KH
  have HK := hid KK
  have HND := hid hN
  have HS := hid h
  clear h hc KK hN
  generalize bl s t = t0 at *
  go_enter Tryd.func18, Tryd.ntmps18
  go_wp2_with fail
  refine KB.out.mono ?_
  rintro e w1 ⟨rfl, hr, tt⟩
  have S1 := hid (HS.out.goes hr tt)
  have T1 := hid tt
  clear hr tt KB
  have K1 := hid (KH.out _ S1.out.rr)
  go_wp2_with fail
  refine K1.out.mono ?_
  rintro e w2 ⟨rfl, tt⟩
  have S2 := hid (S1.out.new tt)
  have T2 := hid (T1.out.trans tt (fun _ _ e => e.elim))
  clear tt K1 S1 T1
  cases sub with
  | none =>
    have h32 := HND.out rfl
    have hI : (31 : Int) < (deep : Int) := by omega
    have KF := hid (fail_good b s t0 (.slice av nv cv) 21 _ S2.out.rr)
    go_wp2_with fail
    refine KF.out.mono ?_
    rintro e w3 ⟨rfl, hr, tt⟩
    have S3 := hid (S2.out.goes hr tt)
    have T3 := hid (T2.out.trans tt (fun _ _ e => e))
    clear hr tt KF
    go_wp2
    go_ret
    exact ⟨_, t0, av, nv, cv, ds, rfl, by omega, S3.out, .inl rfl, T3.out.mono (fun _ _ e => .inl e), by omega⟩
  | some f =>
    obtain ⟨hd32, KN⟩ := HK.out f rfl
    have KNH := hid KN
    have hI : ¬ (31 : Int) < (deep : Int) := by omega
    have c1 := S2.out.rr.c1
    have f1 := S2.out.rr.fr (i := 1)
    clear KN HK HND
    go_wp2_with fail
    have TS := Touch.setCell (S := fun k => k = b) (Touch.refl _ w2) (p := ⟨b, 1, none⟩) (fun _ => rfl) (.int .i64 ((t0 : Int) + 1))
    have S3 := hid (show RS (w2.setCell ⟨b, 1, none⟩ (.int .i64 ((t0 : Int) + 1))) lo b s (t0 + 1) (.slice av nv cv) 0 0 ds from S2.out.goes (S2.out.rr.at' (t0 + 1)) TS)
    have T3 := hid (T2.out.trans TS (fun _ _ e => e))
    clear TS c1 f1
    generalize w2.setCell ⟨b, 1, none⟩ (.int .i64 ((t0 : Int) + 1)) = w3 at *
    refine (KNH.out w3 S3.out).mono ?_
    rintro e w4 hv
    have HV := hid (hv.back T3.out (by omega : t ≤ t0 + 1))
    obtain ⟨q, rfl⟩ := hv.ret
    clear hv KNH
    go_wp2
    go_ret
    exact HV.out
end Go.Proofs.YtjpmjcadnnglnaaDoor
