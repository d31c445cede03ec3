/- The document's parser of JSON: text; conditions: as told. -/
import Derived.Test.YtjpmjcadnnglnaaDoorQWa
import Derived.Test.YtjpmjcadnnglnaaDoorWg
import Derived.Test.YtjpmjcadnnglnaaDoorM18
namespace Go.Proofs.YtjpmjcadnnglnaaDoor
open Go.RowKit
open Go.Lib

/-- The reader, and the bytes that were read. -/
structure TX (w0 w : World) (b : Nat) (s : ByteArray) (t : Nat) (V : Value) (er ea : Nat) (v : Value) (o : Bs) : Prop where
  rr : Rr w b s t V er ea
  ob : OB w v o
  nk : ∀ g, v.ownBlock = some g → w0.heap.size ≤ g
  tc : Touch (fun k => k = b) w0 w
  lt : b < w0.heap.size
section
variable {w0 w w' : World} {b : Nat} {s : ByteArray} {t : Nat} {V : Value} {er ea : Nat} {v v' : Value} {o m : Bs}
theorem TX.new (h : TX w0 w b s t V er ea v o) (k : Touch (fun _ => False) w w') : TX w0 w' b s t V er ea v o := ⟨h.rr.new k, h.ob.kept k (fun _ _ e => e), h.nk, h.tc.trans k (fun _ _ e => e.elim), h.lt⟩
theorem TX.goes {t' er' ea' : Nat} (h : TX w0 w b s t V er ea v o) (hr : Rr w' b s t' V er' ea') (k : Touch (fun k => k = b) w w') : TX w0 w' b s t' V er' ea' v o :=
  ⟨hr, h.ob.kept k (fun g e e2 => by have := h.nk g e; have := h.lt; omega), h.nk, h.tc.trans k (fun _ _ e => e), h.lt⟩
theorem TX.at' (h : TX w0 w b s t V er ea v o) (t' : Nat) : TX w0 (w.setCell ⟨b, 1, none⟩ (.int .i64 (t' : Nat))) b s t' V er ea v o :=
  h.goes (h.rr.at' t') (Touch.setCell (S := fun k => k = b) (Touch.refl _ _) (p := ⟨b, 1, none⟩) (fun _ => rfl) _)
theorem TX.app (h : TX w0 w b s t V er ea v o) (g : Grew w w' v v' (o ++ m)) : TX w0 w' b s t V er ea v' (o ++ m) :=
  ⟨(g.touch.block b h.rr.lt (fun e => by have := h.nk b e; have := h.lt; omega)).trans h.rr, g.own, (fun x e => by
    rcases g.pos with e2 | ⟨g2, e2, h2⟩
    · exact h.nk x (by rw [← e2]; exact e)
    · rw [e2] at e
      cases e
      have := h.tc.size
      omega), h.tc.trans g.touch (fun i hi e => by have := h.nk i e; omega), h.lt⟩
theorem TX.row {a : Option Addr} {n c : Nat} (h : TX w0 w b s t V er ea (.slice a n c) o) (hn : o.length = n) : w.ownsRow 0 5 1 (.slice a n c) n (bv o) := by
  have := h.ob
  unfold OB at this
  rw [hn] at this
  exact this
end
/-- What text leaves. -/
def RTxtR (s : ByteArray) (b : Nat) (V : Value) (w : World) : Except Nat (Bs × Nat) → Ending → World → Prop
  | .ok (o, u), e, w' => e = .returned (.string ⟨o.toArray⟩) ∧ Rr w' b s u V 0 0 ∧ Touch (fun k => k = b) w w'
  | .error k, e, w' => ∃ o u, e = .returned (.string o) ∧ u ≤ s.size + 1 ∧ Rr w' b s u V 20 k ∧ Touch (fun k => k = b) w w'
/-- Where a round begins: all is well, or something is wrong. -/
def TSt (s : ByteArray) (b : Nat) (V : Value) (w0 : World) (gk : Nat) (X : Except Nat (Bs × Nat)) (v : Value) (o : Bs) (wq : World) : Prop :=
  (∃ t, t ≤ s.size ∧ s.size + 1 ≤ t + gk ∧ TX w0 wq b s t V 0 0 v o ∧ tdF s gk t o = X) ∨ (∃ t k, t ≤ s.size + 1 ∧ TX w0 wq b s t V 20 k v o ∧ X = .error k)
theorem index_lk {s : ByteArray} {i c : Nat} (h : lk s i = (c : Int)) (w : World) : (Instr.index 9 (.string s) (.int .i64 (i : Nat))).run Tryd.prog w = .ok (.int .u8 (c : Nat)) w := by
  have hl := (lk_is h).1
  have e : lk s i = (s[i].toNat : Int) := by unfold lk; rw [at_opt s i hl]
  have hI : (i : Int) < (s.size : Int) := by omega
  have : (s[i].toNat : Int) = (c : Int) := by rw [← e]; exact h
  rw [← this]
  simp [go_sem, hI]
theorem put_bytes (x : Nat) (h : isSc x) (w : World) : Calls Tryd.prog 49 #[.int .i64 (x : Nat), .int .i64 1] w fun e w' => e = .returned (.string ⟨(ub x).toArray⟩) ∧ Touch (fun _ => False) w w' := by
  have := bytes_any 1 (by omega) (x : Int) (by unfold isSc at h; unfold okc; rw [show scB (x : Int) = true from (scB_iff _).2 (by omega)]; rfl) w
  rw [str_ub x h] at this
  exact this
theorem needE_le {s : ByteArray} {t k : Nat} (h : needE s [34] t = .error k) : k ≤ t := by
  rw [needE] at h
  split at h
  · rw [needE] at h
    cases h
  · cases h
    omega
set_option maxRecDepth 100000 in
set_option maxHeartbeats 32000000 in
theorem text_loop (b : Nat) (s : ByteArray) (V : Value) (w0 : World) (hs : s.size ≤ 1048576) (X : Except Nat (Bs × Nat)) (w : World) (t : Nat) (h : Rr w0 b s t V 0 0) (ht : t ≤ s.size) (hX : quot2 s t = X) (hw : w = w0) :
    Calls Tryd.prog 33 #[.pointer (some ⟨b, 0, none⟩)] w fun e w' => RTxtR s b V w0 X e w' := by
  subst hw
  obtain ⟨i0, hi5, hz0, hz1, hz2⟩ := info_parts info5b
  have HLT := hid h.lt
  have KW := hid (want_good b s ⟨#[34]⟩ t V w h hs ht (by decide))
  rw [show needE s (⟨#[34]⟩ : ByteArray).data.toList t = needE s [34] t from rfl] at KW
  have HX := hid hX
  unfold quot2 at HX
  have KH := hid (fun w' k (hp : Rr w' b s k V 0 0) (hk : k ≤ 2000000) => here_good b s k V w' hp hk hs)
  have KE := hid (fun w' k ea (hp : Rr w' b s k V 20 ea) => here_err b s k V 20 ea w' hp (by decide))
  have KF := hid (fun w' k (hp : Rr w' b s k V 0 0) => fail_good b s k V 20 w' hp)
  have KG := hid (fun w' k ea (hp : Rr w' b s k V 20 ea) => fail_err b s k V 20 ea 20 w' hp (by decide))
  have KU := hid (fun w' k (hp : Rr w' b s k V 0 0) (hk : k ≤ s.size) => runit_good b s k V w' hp hs hk)
  have HNE := hid (fun u => need_ok s [34] t u ht)
  clear h hX
  go_enter Tryd.func33, Tryd.ntmps33
  go_wp2_with fail
  have S0 := hid (show Calls Tryd.prog 31 #[.pointer (some ⟨b, 0, none⟩), .string ⟨#[34]⟩] w fun e w' => e = .returned (.tuple #[]) ∧ TSt s b V w (s.size + 1) X (.slice none 0 0) [] w' from by
    refine KW.out.mono ?_
    intro e w' hh
    cases hn : needE s [34] t with
    | ok u =>
      rw [hn] at hh
      have hu := HNE.out u hn
      have hx := HX.out
      rw [hn] at hx
      exact ⟨hh.1, .inl ⟨u, hu.2, by omega, ⟨hh.2.1, OB.nil _, (fun g e => by cases e), hh.2.2, HLT.out⟩, hx⟩⟩
    | error k =>
      rw [hn] at hh
      have hx := HX.out
      rw [hn] at hx
      exact ⟨hh.1, .inr ⟨k, k, by have := (needE_le hn); omega, ⟨hh.2.1, OB.nil _, (fun g e => by cases e), hh.2.2, HLT.out⟩, hx.symm⟩⟩)
  refine S0.out.mono ?_
  rintro e w1 ⟨rfl, st⟩
  have S1 := hid st
  clear st S0 KW HX HNE
  go_wp2_with fail
  go_loopg [3] (s.size + 1) (fun gk v3 wq => ∃ (a : Option Addr) (n c : Nat) (o : Bs), v3 = .slice a n c ∧ o.length = n ∧ n + 6 * gk ≤ 6 * (s.size + 1) ∧ Hid (TSt s b V w gk X (.slice a n c) o wq))
  case atStart => exact ⟨none, 0, 0, [], rfl, rfl, by omega, S1⟩
  case round =>
    obtain ⟨a, n, c, o, rfl, hol, hng, HK⟩ := hrel
    clear S1
    rcases HK.out with ⟨t', ht', hgk, htx, hX⟩ | ⟨t', k', ht', htx, hX⟩
    · obtain ⟨g, rfl⟩ : ∃ g, gk = g + 1 := ⟨gk - 1, by omega⟩
      have H0 := hid htx
      have HD := hid hX
      rw [tdF] at HD
      clear htx hX HK
      have K1 := hid (KH.out wr t' H0.out.rr (by omega))
      have hin := lk_in s t'
      by_cases hq : lk s t' = 34
      · rw [if_pos hq] at HD
        have hl := (lk_is (c := 34) hq).1
        rw [hq] at K1
        go_wp2_with fail
        refine K1.out.mono ?_
        rintro e w2 ⟨rfl, tt⟩
        have H1 := hid (H0.out.new tt)
        clear tt K1
        have c1 := H1.out.rr.c1
        have f1 := H1.out.rr.fr (i := 1)
        have hconv := (H1.out.at' (t' + 1)).ob.conv
        rw [show ((t' + 1 : Nat) : Int) = (t' : Int) + 1 from rfl] at hconv
        go_wp2
        go_ret
        rw [← HD.out]
        exact ⟨rfl, (H1.out.at' (t' + 1)).rr, (H1.out.at' (t' + 1)).tc⟩
      rw [if_neg hq] at HD
      by_cases h32 : lk s t' < 32
      · rw [if_pos h32] at HD
        generalize lk s t' = x at *
        go_wp2_with fail
        refine K1.out.mono ?_
        rintro e w2 ⟨rfl, tt⟩
        have H1 := hid (H0.out.new tt)
        clear tt K1
        have K2 := hid (KF.out w2 t' H1.out.rr)
        go_wp2_with fail
        refine K2.out.mono ?_
        rintro e w3 ⟨rfl, hr, tt⟩
        have H2 := hid (H1.out.goes hr tt)
        clear hr tt K2
        go_wp2
        go_ret
        rw [← HD.out]
        exact ⟨_, t', rfl, by omega, H2.out.rr, H2.out.tc⟩
      rw [if_neg h32] at HD
      have hlt : t' < s.size := lk_in2 (by omega)
      by_cases h92 : lk s t' = 92
      · rw [if_pos h92] at HD
        rw [h92] at K1
        go_wp2_with fail
        refine K1.out.mono ?_
        rintro e w2 ⟨rfl, tt⟩
        have H1 := hid (H0.out.new tt)
        clear tt K1 hq h32
        have c1 := H1.out.rr.c1
        have f1 := H1.out.rr.fr (i := 1)
        go_wp2_with fail
        have H2 := hid (H1.out.at' (t' + 1))
        rw [show ((t' + 1 : Nat) : Int) = (t' : Int) + 1 from rfl] at H2
        clear c1 f1 H1 H0
        generalize w2.setCell ⟨b, 1, none⟩ (.int .i64 ((t' : Int) + 1)) = w3 at *
        obtain ⟨t1, ht1⟩ : ∃ t1, t1 = t' + 1 := ⟨_, rfl⟩
        rw [← ht1] at H2 HD
        have HT1 := hid ht1
        have hle1 : t1 ≤ s.size := by omega
        have hg1 : s.size + 1 ≤ t1 + g := by omega
        clear ht1
        have K2 := hid (KH.out w3 t1 H2.out.rr (by omega))
        have hin1 := lk_in s t1
        by_cases hu : lk s t1 = 117
        · skip
          have hl1 := (lk_is (c := 117) hu).1
          rw [if_pos hu] at HD
          rw [hu] at K2
          refine K2.out.mono ?_
          rintro e w5 ⟨rfl, tt⟩
          have H3 := hid (H2.out.new tt)
          clear tt K2 H2
          have c1 := H3.out.rr.c1
          have f1 := H3.out.rr.fr (i := 1)
          go_wp2_with fail
          have H4 := hid (H3.out.at' (t1 + 1))
          rw [show ((t1 + 1 : Nat) : Int) = (t1 : Int) + 1 from rfl] at H4
          clear c1 f1 H3
          generalize w5.setCell ⟨b, 1, none⟩ (.int .i64 ((t1 : Int) + 1)) = w6 at *
          obtain ⟨t2, ht2⟩ : ∃ t2, t2 = t1 + 1 := ⟨_, rfl⟩
          rw [← ht2] at H4
          rw [show t' + 2 = t2 from by rw [ht2, HT1.out]] at HD
          have hle2 : t2 ≤ s.size := by omega
          have hg2 : s.size + 2 ≤ t2 + g := by omega
          have h2p : 2 ≤ t2 := by omega
          clear ht2 hl1 hle1 hg1
          have K3 := hid (KU.out w6 t2 H4.out.rr hle2)
          unfold uStep at HD
          cases hU : unitE s t2 with
          | error k =>
            have hke := unit_err (show unF s 4 t2 0 = .error k from hU) hle2
            rw [hU] at K3 HD
            unfold RUnitR at K3
            clear hU
            refine K3.out.mono ?_
            rintro e w7 ⟨rfl, hr, tt⟩
            have H5 := hid (H4.out.goes hr tt)
            clear hr tt K3 H4
            have c1 := H5.out.rr.c1
            have f1 := H5.out.rr.fr (i := 1)
            have H6 := hid (H5.out.at' (k - 1))
            rw [show ((k - 1 : Nat) : Int) = (k : Int) - 1 from by omega] at H6
            go_upto_region 33 with fail
            clear c1 f1 H5
            generalize w7.setCell ⟨b, 1, none⟩ (.int .i64 ((k : Int) - 1)) = wA at *
            obtain ⟨p, hp⟩ : ∃ p, p = k - 1 := ⟨_, rfl⟩
            rw [← hp] at H6
            have HP := hid (show p + 1 = k from by omega)
            have hpb : p ≤ s.size := by omega
            clear hp
            go_quiet (fail)
            have H7 := hid (H6.out.new ((Touch.refl (fun _ => False) wA).drewN nq))
            clear H6
            generalize wA.drewN nq = wB at *
            as_aux_lemma =>
              obtain ⟨U, hU⟩ : ∃ U, U = ub 0 := ⟨_, rfl⟩
              have KB := hid (fun w' => put_bytes 0 (by unfold isSc; omega) w')
              have hlen : U.length ≤ 6 := by rw [hU]; exact ub_len 0
              rw [← hU] at KB
              have HUX := hid hU
              have hsz : (⟨U.toArray⟩ : ByteArray).size = U.length := by show U.toArray.size = _; rw [List.size_toArray]
              clear hU
              go_wp2_with fail
              refine (KB.out _).mono ?_
              rintro e w8 ⟨rfl, tt⟩
              have H8 := hid (H7.out.new tt)
              clear tt KB H7
              have O5 := hid (H8.out.row hol)
              go_wp2_with (at_builtin; (refine wpList_append_str_at rfl _ _ 97 9 rfl 5 i0 Tryd.underlying97 Tryd.underlying9 hi5 hz0 hz1 hz2 _ _ _ rfl O5.out ⟨U.toArray⟩ rfl (by unfold maxLen; omega) (by omega) ?_))
              intro v' w9 hown hgrow hat
              try rw [hsz] at hown
              have G5 := hid (grew_str (l := o) (m := U) (by
                rw [hol]
                have := hown
                rw [str_bv] at this
                exact this) hgrow hat)
              have H9 := hid (H8.out.app G5.out)
              obtain ⟨a6, c6, hv6⟩ := own_shape hown
              subst hv6
              clear hown hgrow hat O5 G5 H8
              have c1 := H9.out.rr.c1
              have f1 := H9.out.rr.fr (i := 1)
              go_wp2
              go_roundg g
              case measure => omega
              case rel =>
                have H10 := H9.out.at' (p + 1)
                rw [show ((p + 1 : Nat) : Int) = (p : Int) + 1 from rfl] at H10
                refine ⟨a6, n + U.length, c6, o ++ U, rfl, by rw [List.length_append, hol], by omega, hid ?_⟩
                · refine .inr ⟨p + 1, k, by omega, H10, ?_⟩
                  rw [← HD.out]
          | ok au =>
            obtain ⟨ua, u⟩ := au
            have hau := unitE_ok hU
            rw [hU] at K3 HD
            unfold RUnitR at K3
            have HAU := hid hau.1
            have haL : ua < 65536 := hau.2.1
            have hule : u ≤ s.size := hau.2.2
            have hu6 : 6 ≤ u := by omega
            have hug : s.size + 6 ≤ u + g := by omega
            clear hU hau
            refine K3.out.mono ?_
            rintro e w7 ⟨rfl, hr, tt⟩
            have H5 := hid (H4.out.goes hr tt)
            clear hr tt K3 H4
            have c1 := H5.out.rr.c1
            have f1 := H5.out.rr.fr (i := 1)
            have H6 := hid (H5.out.at' (u - 1))
            rw [show ((u - 1 : Nat) : Int) = (u : Int) - 1 from by omega] at H6
            go_upto_region 33 with fail
            clear c1 f1 H5
            generalize w7.setCell ⟨b, 1, none⟩ (.int .i64 ((u : Int) - 1)) = wA at *
            obtain ⟨p, hp⟩ : ∃ p, p = u - 1 := ⟨_, rfl⟩
            rw [← hp] at H6
            have HP := hid (show p + 1 = t2 + 4 from by have := HAU.out; omega)
            have hp1 : p + 1 ≤ s.size := by omega
            have hpg : s.size + 6 ≤ p + 1 + g := by omega
            try simp only at HD
            rw [show t2 + 4 = p + 1 from HP.out.symm] at HD
            clear hp hug hule hu6 HAU
            have c1 := H6.out.rr.c1
            have c0 := H6.out.rr.c0
            have c4 := H6.out.rr.c4
            by_cases a1 : ua < 55296
            · have a1I : ¬ (55296 : Int) ≤ (ua : Int) := by omega
              rw [if_neg (fun e => by have := e.1; unfold hiB at this; omega), show lone ua = ua from if_neg (by omega)] at HD
              as_aux_lemma =>
                go_quiet (fail)
                have H7 := hid (H6.out.new ((Touch.refl (fun _ => False) wA).drewN nq))
                clear H6 c0 c1 c4
                generalize wA.drewN nq = wB at *
                obtain ⟨U, hU⟩ : ∃ U, U = ub ua := ⟨_, rfl⟩
                have KB := hid (fun w' => put_bytes ua (by unfold isSc; omega) w')
                have hlen : U.length ≤ 6 := by rw [hU]; exact ub_len ua
                rw [← hU] at KB
                have HUX := hid hU
                have hsz : (⟨U.toArray⟩ : ByteArray).size = U.length := by show U.toArray.size = _; rw [List.size_toArray]
                clear hU
                go_wp2_with fail
                refine (KB.out _).mono ?_
                rintro e w8 ⟨rfl, tt⟩
                have H8 := hid (H7.out.new tt)
                clear tt KB H7
                have O5 := hid (H8.out.row hol)
                go_wp2_with (at_builtin; (refine wpList_append_str_at rfl _ _ 97 9 rfl 5 i0 Tryd.underlying97 Tryd.underlying9 hi5 hz0 hz1 hz2 _ _ _ rfl O5.out ⟨U.toArray⟩ rfl (by unfold maxLen; omega) (by omega) ?_))
                intro v' w9 hown hgrow hat
                try rw [hsz] at hown
                have G5 := hid (grew_str (l := o) (m := U) (by
                  rw [hol]
                  have := hown
                  rw [str_bv] at this
                  exact this) hgrow hat)
                have H9 := hid (H8.out.app G5.out)
                obtain ⟨a6, c6, hv6⟩ := own_shape hown
                subst hv6
                clear hown hgrow hat O5 G5 H8
                have c1 := H9.out.rr.c1
                have f1 := H9.out.rr.fr (i := 1)
                go_wp2
                go_roundg g
                case measure => omega
                case rel =>
                  have H10 := H9.out.at' (p + 1)
                  rw [show ((p + 1 : Nat) : Int) = (p : Int) + 1 from rfl] at H10
                  refine ⟨a6, n + U.length, c6, o ++ U, rfl, by rw [List.length_append, hol], by omega, hid ?_⟩
                  · refine .inl ⟨p + 1, by omega, by omega, H10, ?_⟩
                    rw [HUX.out]; exact HD.out
            have a1I : (55296 : Int) ≤ (ua : Int) := by omega
            by_cases a2 : ua < 56320
            · have a2I : (ua : Int) < 56320 := by omega
              have a3I : (ua : Int) ≤ 57343 := by omega
              have hhi : hiB ua := by unfold hiB; omega
              by_cases hiu : isU s (p + 1) = true
              · rw [if_pos ⟨hhi, hiu⟩] at HD
                obtain ⟨hy1, hy2, hp3s, _⟩ := isU_iff hiu
                have hp3 : p + 3 ≤ s.size := by omega
                rw [show t2 + 6 = p + 3 from by have := HP.out; omega, show t2 + 10 = p + 7 from by have := HP.out; omega] at HD
                have hszI : (p : Int) + 2 < (s.size : Int) := by omega
                have hix1 : ∀ w, (Instr.index 9 (.string s) (.int .i64 ((p : Int) + 1))).run Tryd.prog w = .ok (.int .u8 92) w := fun w => index_lk (i := p + 1) (c := 92) hy1 w
                have hix2 : ∀ w, (Instr.index 9 (.string s) (.int .i64 ((p : Int) + 2))).run Tryd.prog w = .ok (.int .u8 117) w := fun w => index_lk (i := p + 2) (c := 117) hy2 w
                clear hy1 hy2 hp3s hiu
                go_quiet (fail)
                have H7 := hid (H6.out.new ((Touch.refl (fun _ => False) wA).drewN nq))
                clear H6 c0 c1 c4
                generalize wA.drewN nq = wB at *
                clear hix1 hix2 hszI
                have c1 := H7.out.rr.c1
                have f1 := H7.out.rr.fr (i := 1)
                go_wp2_with fail
                have H8 := hid (H7.out.at' (p + 3))
                rw [show ((p + 3 : Nat) : Int) = (p : Int) + 3 from rfl] at H8
                clear c1 f1 H7
                generalize wB.setCell ⟨b, 1, none⟩ (.int .i64 ((p : Int) + 3)) = wC at *
                have K4 := hid (KU.out wC (p + 3) H8.out.rr hp3)
                cases hV : unitE s (p + 3) with
                | error k2 =>
                  have hke := unit_err (show unF s 4 (p + 3) 0 = .error k2 from hV) hp3
                  have hk21 : 1 ≤ k2 := by omega
                  have hk22 : k2 ≤ s.size := hke.2
                  rw [hV] at K4 HD
                  unfold RUnitR at K4
                  clear hV hke
                  refine K4.out.mono ?_
                  rintro e w7b ⟨rfl, hr, tt⟩
                  have H9 := hid (H8.out.goes hr tt)
                  clear hr tt K4 H8
                  have c1 := H9.out.rr.c1
                  have f1 := H9.out.rr.fr (i := 1)
                  have H10 := hid (H9.out.at' (k2 - 1))
                  rw [show ((k2 - 1 : Nat) : Int) = (k2 : Int) - 1 from by omega] at H10
                  go_upto_region 38 with fail
                  clear c1 f1 H9
                  generalize w7b.setCell ⟨b, 1, none⟩ (.int .i64 ((k2 : Int) - 1)) = wE at *
                  obtain ⟨p2, hp2⟩ : ∃ p2, p2 = k2 - 1 := ⟨_, rfl⟩
                  rw [← hp2] at H10
                  have hp2b : p2 ≤ s.size := by omega
                  clear hp2
                  have c4 := H10.out.rr.c4
                  as_aux_lemma =>
                    obtain ⟨U, hU⟩ : ∃ U, U = ub 65533 := ⟨_, rfl⟩
                    have KB := hid (fun w' => put_bytes 65533 (by unfold isSc; omega) w')
                    have hlen : U.length ≤ 6 := by rw [hU]; exact ub_len 65533
                    rw [← hU] at KB
                    have HUX := hid hU
                    have hsz : (⟨U.toArray⟩ : ByteArray).size = U.length := by show U.toArray.size = _; rw [List.size_toArray]
                    clear hU
                    go_wp2_with fail
                    refine (KB.out _).mono ?_
                    rintro e w8 ⟨rfl, tt⟩
                    have H8 := hid (H10.out.new tt)
                    clear tt KB H10
                    have O5 := hid (H8.out.row hol)
                    go_wp2_with (at_builtin; (refine wpList_append_str_at rfl _ _ 97 9 rfl 5 i0 Tryd.underlying97 Tryd.underlying9 hi5 hz0 hz1 hz2 _ _ _ rfl O5.out ⟨U.toArray⟩ rfl (by unfold maxLen; omega) (by omega) ?_))
                    intro v' w9 hown hgrow hat
                    try rw [hsz] at hown
                    have G5 := hid (grew_str (l := o) (m := U) (by
                      rw [hol]
                      have := hown
                      rw [str_bv] at this
                      exact this) hgrow hat)
                    have H9 := hid (H8.out.app G5.out)
                    obtain ⟨a6, c6, hv6⟩ := own_shape hown
                    subst hv6
                    clear hown hgrow hat O5 G5 H8
                    have c1 := H9.out.rr.c1
                    have f1 := H9.out.rr.fr (i := 1)
                    go_wp2
                    go_roundg g
                    case measure => omega
                    case rel =>
                      have H10 := H9.out.at' (p2 + 1)
                      rw [show ((p2 + 1 : Nat) : Int) = (p2 : Int) + 1 from rfl] at H10
                      refine ⟨a6, n + U.length, c6, o ++ U, rfl, by rw [List.length_append, hol], by omega, hid ?_⟩
                      · refine .inr ⟨p2 + 1, k2, by omega, H10, ?_⟩
                        rw [← HD.out]
                | ok cu =>
                  obtain ⟨uc, u2⟩ := cu
                  have hcu := unitE_ok hV
                  have HU2 := hid hcu.1
                  have hcL : uc < 65536 := hcu.2.1
                  have hu2l : u2 ≤ s.size := hcu.2.2
                  have hu26 : 6 ≤ u2 := by omega
                  rw [hV] at K4 HD
                  unfold RUnitR at K4
                  clear hV hcu
                  try simp only at HD
                  refine K4.out.mono ?_
                  rintro e w7b ⟨rfl, hr, tt⟩
                  have H9 := hid (H8.out.goes hr tt)
                  clear hr tt K4 H8
                  have c1 := H9.out.rr.c1
                  have f1 := H9.out.rr.fr (i := 1)
                  have H10 := hid (H9.out.at' (u2 - 1))
                  rw [show ((u2 - 1 : Nat) : Int) = (u2 : Int) - 1 from by omega] at H10
                  go_upto_region 38 with fail
                  clear c1 f1 H9
                  generalize w7b.setCell ⟨b, 1, none⟩ (.int .i64 ((u2 : Int) - 1)) = wE at *
                  obtain ⟨p3, hp3e⟩ : ∃ p3, p3 = u2 - 1 := ⟨_, rfl⟩
                  rw [← hp3e] at H10
                  have HP3 := hid (show p3 + 1 = p + 7 from by have := HU2.out; omega)
                  have hp3b : p3 + 1 ≤ s.size := by omega
                  have hp3g : s.size + 1 ≤ p3 + 1 + g := by have := HP3.out; omega
                  clear hp3e hu2l hu26 HU2
                  rw [show p + 7 = p3 + 1 from HP3.out.symm] at HD
                  have c4 := H10.out.rr.c4
                  have c1 := H10.out.rr.c1
                  have f1 := H10.out.rr.fr (i := 1)
                  by_cases hlo : loB uc
                  · rw [if_pos hlo] at HD
                    have l1 : (56320 : Int) ≤ (uc : Int) := by unfold loB at hlo; omega
                    have l2 : (uc : Int) ≤ 57343 := by unfold loB at hlo; omega
                    have hjs := join_sc hhi hlo
                    have HJ := hid (show 65536 + 1024 * ((ua : Int) - 55296) + (uc : Int) - 56320 = ((joinU ua uc : Nat) : Int) from by unfold joinU; unfold loB at hlo; omega)
                    have hJS := hid hjs.1
                    obtain ⟨JJ, hJJ⟩ : ∃ JJ, JJ = joinU ua uc := ⟨_, rfl⟩
                    rw [← hJJ] at HJ hJS hjs HD
                    have j1 : (55296 : Int) ≤ (JJ : Int) := by omega
                    have j2 : ¬ (JJ : Int) ≤ 57343 := by omega
                    clear hJJ hjs hlo
                    go_upto_region 42 with fail
                    rw [HJ.out]
                    clear HJ l1 l2 c1 f1 c4
                    as_aux_lemma =>
                      obtain ⟨U, hU⟩ : ∃ U, U = ub JJ := ⟨_, rfl⟩
                      have KB := hid (fun w' => put_bytes JJ hJS.out w')
                      have hlen : U.length ≤ 6 := by rw [hU]; exact ub_len JJ
                      rw [← hU] at KB
                      have HUX := hid hU
                      have hsz : (⟨U.toArray⟩ : ByteArray).size = U.length := by show U.toArray.size = _; rw [List.size_toArray]
                      clear hU
                      go_wp2_with fail
                      refine (KB.out _).mono ?_
                      rintro e w8 ⟨rfl, tt⟩
                      have H8 := hid (H10.out.new tt)
                      clear tt KB H10
                      have O5 := hid (H8.out.row hol)
                      go_wp2_with (at_builtin; (refine wpList_append_str_at rfl _ _ 97 9 rfl 5 i0 Tryd.underlying97 Tryd.underlying9 hi5 hz0 hz1 hz2 _ _ _ rfl O5.out ⟨U.toArray⟩ rfl (by unfold maxLen; omega) (by omega) ?_))
                      intro v' w9 hown hgrow hat
                      try rw [hsz] at hown
                      have G5 := hid (grew_str (l := o) (m := U) (by
                        rw [hol]
                        have := hown
                        rw [str_bv] at this
                        exact this) hgrow hat)
                      have H9 := hid (H8.out.app G5.out)
                      obtain ⟨a6, c6, hv6⟩ := own_shape hown
                      subst hv6
                      clear hown hgrow hat O5 G5 H8
                      have c1 := H9.out.rr.c1
                      have f1 := H9.out.rr.fr (i := 1)
                      go_wp2
                      go_roundg g
                      case measure => omega
                      case rel =>
                        have H10 := H9.out.at' (p3 + 1)
                        rw [show ((p3 + 1 : Nat) : Int) = (p3 : Int) + 1 from rfl] at H10
                        refine ⟨a6, n + U.length, c6, o ++ U, rfl, by rw [List.length_append, hol], by omega, hid ?_⟩
                        · refine .inl ⟨p3 + 1, by omega, by omega, H10, ?_⟩
                          rw [HUX.out]; exact HD.out
                  · rw [if_neg hlo] at HD
                    have H11 := hid (H10.out.at' p)
                    by_cases l1 : (56320 : Int) ≤ (uc : Int)
                    · have l2 : ¬ (uc : Int) ≤ 57343 := by unfold loB at hlo; omega
                      clear hlo
                      go_upto_region 42 with fail
                      clear c1 f1 c4 H10
                      generalize wE.setCell ⟨b, 1, none⟩ (.int .i64 (p : Nat)) = wF at *
                      as_aux_lemma =>
                        obtain ⟨U, hU⟩ : ∃ U, U = ub 65533 := ⟨_, rfl⟩
                        have KB := hid (fun w' => put_bytes 65533 (by unfold isSc; omega) w')
                        have hlen : U.length ≤ 6 := by rw [hU]; exact ub_len 65533
                        rw [← hU] at KB
                        have HUX := hid hU
                        have hsz : (⟨U.toArray⟩ : ByteArray).size = U.length := by show U.toArray.size = _; rw [List.size_toArray]
                        clear hU
                        go_wp2_with fail
                        refine (KB.out _).mono ?_
                        rintro e w8 ⟨rfl, tt⟩
                        have H8 := hid (H11.out.new tt)
                        clear tt KB H11
                        have O5 := hid (H8.out.row hol)
                        go_wp2_with (at_builtin; (refine wpList_append_str_at rfl _ _ 97 9 rfl 5 i0 Tryd.underlying97 Tryd.underlying9 hi5 hz0 hz1 hz2 _ _ _ rfl O5.out ⟨U.toArray⟩ rfl (by unfold maxLen; omega) (by omega) ?_))
                        intro v' w9 hown hgrow hat
                        try rw [hsz] at hown
                        have G5 := hid (grew_str (l := o) (m := U) (by
                          rw [hol]
                          have := hown
                          rw [str_bv] at this
                          exact this) hgrow hat)
                        have H9 := hid (H8.out.app G5.out)
                        obtain ⟨a6, c6, hv6⟩ := own_shape hown
                        subst hv6
                        clear hown hgrow hat O5 G5 H8
                        have c1 := H9.out.rr.c1
                        have f1 := H9.out.rr.fr (i := 1)
                        go_wp2
                        go_roundg g
                        case measure => omega
                        case rel =>
                          have H10 := H9.out.at' (p + 1)
                          rw [show ((p + 1 : Nat) : Int) = (p : Int) + 1 from rfl] at H10
                          refine ⟨a6, n + U.length, c6, o ++ U, rfl, by rw [List.length_append, hol], by omega, hid ?_⟩
                          · refine .inl ⟨p + 1, by omega, by omega, H10, ?_⟩
                            rw [HUX.out]; exact HD.out
                    · clear hlo
                      go_upto_region 42 with fail
                      clear c1 f1 c4 H10
                      generalize wE.setCell ⟨b, 1, none⟩ (.int .i64 (p : Nat)) = wF at *
                      as_aux_lemma =>
                        obtain ⟨U, hU⟩ : ∃ U, U = ub 65533 := ⟨_, rfl⟩
                        have KB := hid (fun w' => put_bytes 65533 (by unfold isSc; omega) w')
                        have hlen : U.length ≤ 6 := by rw [hU]; exact ub_len 65533
                        rw [← hU] at KB
                        have HUX := hid hU
                        have hsz : (⟨U.toArray⟩ : ByteArray).size = U.length := by show U.toArray.size = _; rw [List.size_toArray]
                        clear hU
                        go_wp2_with fail
                        refine (KB.out _).mono ?_
                        rintro e w8 ⟨rfl, tt⟩
                        have H8 := hid (H11.out.new tt)
                        clear tt KB H11
                        have O5 := hid (H8.out.row hol)
                        go_wp2_with (at_builtin; (refine wpList_append_str_at rfl _ _ 97 9 rfl 5 i0 Tryd.underlying97 Tryd.underlying9 hi5 hz0 hz1 hz2 _ _ _ rfl O5.out ⟨U.toArray⟩ rfl (by unfold maxLen; omega) (by omega) ?_))
                        intro v' w9 hown hgrow hat
                        try rw [hsz] at hown
                        have G5 := hid (grew_str (l := o) (m := U) (by
                          rw [hol]
                          have := hown
                          rw [str_bv] at this
                          exact this) hgrow hat)
                        have H9 := hid (H8.out.app G5.out)
                        obtain ⟨a6, c6, hv6⟩ := own_shape hown
                        subst hv6
                        clear hown hgrow hat O5 G5 H8
                        have c1 := H9.out.rr.c1
                        have f1 := H9.out.rr.fr (i := 1)
                        go_wp2
                        go_roundg g
                        case measure => omega
                        case rel =>
                          have H10 := H9.out.at' (p + 1)
                          rw [show ((p + 1 : Nat) : Int) = (p : Int) + 1 from rfl] at H10
                          refine ⟨a6, n + U.length, c6, o ++ U, rfl, by rw [List.length_append, hol], by omega, hid ?_⟩
                          · refine .inl ⟨p + 1, by omega, by omega, H10, ?_⟩
                            rw [HUX.out]; exact HD.out
              rw [if_neg (fun e => hiu e.2), show lone ua = 65533 from if_pos (by omega)] at HD
              by_cases hsz : p + 2 < s.size
              · have hszI : (p : Int) + 2 < (s.size : Int) := by omega
                have hin1 := lk_in s (p + 1)
                have hin2 := lk_in s (p + 2)
                have hne1 : lk s (p + 1) ≠ -1 := by
                  intro e
                  have := lk_by s (p + 1)
                  rw [if_pos (by omega)] at this
                  omega
                have hne2 : lk s (p + 2) ≠ -1 := by
                  intro e
                  have := lk_by s (p + 2)
                  rw [if_pos (by omega)] at this
                  omega
                obtain ⟨y1, hy1⟩ : ∃ y : Nat, lk s (p + 1) = (y : Int) := ⟨(lk s (p + 1)).toNat, by omega⟩
                obtain ⟨y2, hy2⟩ : ∃ y : Nat, lk s (p + 2) = (y : Int) := ⟨(lk s (p + 2)).toNat, by omega⟩
                have hix1 : ∀ w, (Instr.index 9 (.string s) (.int .i64 ((p : Int) + 1))).run Tryd.prog w = .ok (.int .u8 (y1 : Nat)) w := fun w => index_lk (i := p + 1) hy1 w
                have hix2 : ∀ w, (Instr.index 9 (.string s) (.int .i64 ((p : Int) + 2))).run Tryd.prog w = .ok (.int .u8 (y2 : Nat)) w := fun w => index_lk (i := p + 2) hy2 w
                by_cases hc1 : y1 = 92
                · subst hc1
                  have hc2 : ¬ y2 = 117 := by
                    intro e
                    subst e
                    apply hiu
                    unfold isU
                    rw [decide_eq_true (show lk s (p + 1) = 92 from hy1), decide_eq_true (show lk s (p + 1 + 1) = 117 from hy2)]
                    rfl
                  have hb2 : ((y2 : Int) == 117) = false := by simp; omega
                  clear hy1 hy2 hin1 hin2 hne1 hne2 hc2
                  as_aux_lemma =>
                    go_quiet (fail)
                    have H7 := hid (H6.out.new ((Touch.refl (fun _ => False) wA).drewN nq))
                    clear H6 c0 c1 c4
                    generalize wA.drewN nq = wB at *
                    obtain ⟨U, hU⟩ : ∃ U, U = ub 65533 := ⟨_, rfl⟩
                    have KB := hid (fun w' => put_bytes 65533 (by unfold isSc; omega) w')
                    have hlen : U.length ≤ 6 := by rw [hU]; exact ub_len 65533
                    rw [← hU] at KB
                    have HUX := hid hU
                    have hsz : (⟨U.toArray⟩ : ByteArray).size = U.length := by show U.toArray.size = _; rw [List.size_toArray]
                    clear hU
                    go_wp2_with fail
                    refine (KB.out _).mono ?_
                    rintro e w8 ⟨rfl, tt⟩
                    have H8 := hid (H7.out.new tt)
                    clear tt KB H7
                    have O5 := hid (H8.out.row hol)
                    go_wp2_with (at_builtin; (refine wpList_append_str_at rfl _ _ 97 9 rfl 5 i0 Tryd.underlying97 Tryd.underlying9 hi5 hz0 hz1 hz2 _ _ _ rfl O5.out ⟨U.toArray⟩ rfl (by unfold maxLen; omega) (by omega) ?_))
                    intro v' w9 hown hgrow hat
                    try rw [hsz] at hown
                    have G5 := hid (grew_str (l := o) (m := U) (by
                      rw [hol]
                      have := hown
                      rw [str_bv] at this
                      exact this) hgrow hat)
                    have H9 := hid (H8.out.app G5.out)
                    obtain ⟨a6, c6, hv6⟩ := own_shape hown
                    subst hv6
                    clear hown hgrow hat O5 G5 H8
                    have c1 := H9.out.rr.c1
                    have f1 := H9.out.rr.fr (i := 1)
                    go_wp2
                    go_roundg g
                    case measure => omega
                    case rel =>
                      have H10 := H9.out.at' (p + 1)
                      rw [show ((p + 1 : Nat) : Int) = (p : Int) + 1 from rfl] at H10
                      refine ⟨a6, n + U.length, c6, o ++ U, rfl, by rw [List.length_append, hol], by omega, hid ?_⟩
                      · refine .inl ⟨p + 1, by omega, by omega, H10, ?_⟩
                        rw [HUX.out]; exact HD.out
                · have hb1 : ((y1 : Int) == 92) = false := by simp; omega
                  clear hy1 hy2 hin1 hin2 hne1 hne2 hc1
                  as_aux_lemma =>
                    go_quiet (fail)
                    have H7 := hid (H6.out.new ((Touch.refl (fun _ => False) wA).drewN nq))
                    clear H6 c0 c1 c4
                    generalize wA.drewN nq = wB at *
                    obtain ⟨U, hU⟩ : ∃ U, U = ub 65533 := ⟨_, rfl⟩
                    have KB := hid (fun w' => put_bytes 65533 (by unfold isSc; omega) w')
                    have hlen : U.length ≤ 6 := by rw [hU]; exact ub_len 65533
                    rw [← hU] at KB
                    have HUX := hid hU
                    have hsz : (⟨U.toArray⟩ : ByteArray).size = U.length := by show U.toArray.size = _; rw [List.size_toArray]
                    clear hU
                    go_wp2_with fail
                    refine (KB.out _).mono ?_
                    rintro e w8 ⟨rfl, tt⟩
                    have H8 := hid (H7.out.new tt)
                    clear tt KB H7
                    have O5 := hid (H8.out.row hol)
                    go_wp2_with (at_builtin; (refine wpList_append_str_at rfl _ _ 97 9 rfl 5 i0 Tryd.underlying97 Tryd.underlying9 hi5 hz0 hz1 hz2 _ _ _ rfl O5.out ⟨U.toArray⟩ rfl (by unfold maxLen; omega) (by omega) ?_))
                    intro v' w9 hown hgrow hat
                    try rw [hsz] at hown
                    have G5 := hid (grew_str (l := o) (m := U) (by
                      rw [hol]
                      have := hown
                      rw [str_bv] at this
                      exact this) hgrow hat)
                    have H9 := hid (H8.out.app G5.out)
                    obtain ⟨a6, c6, hv6⟩ := own_shape hown
                    subst hv6
                    clear hown hgrow hat O5 G5 H8
                    have c1 := H9.out.rr.c1
                    have f1 := H9.out.rr.fr (i := 1)
                    go_wp2
                    go_roundg g
                    case measure => omega
                    case rel =>
                      have H10 := H9.out.at' (p + 1)
                      rw [show ((p + 1 : Nat) : Int) = (p : Int) + 1 from rfl] at H10
                      refine ⟨a6, n + U.length, c6, o ++ U, rfl, by rw [List.length_append, hol], by omega, hid ?_⟩
                      · refine .inl ⟨p + 1, by omega, by omega, H10, ?_⟩
                        rw [HUX.out]; exact HD.out
              · have hszI : ¬ (p : Int) + 2 < (s.size : Int) := by omega
                as_aux_lemma =>
                  go_quiet (fail)
                  have H7 := hid (H6.out.new ((Touch.refl (fun _ => False) wA).drewN nq))
                  clear H6 c0 c1 c4
                  generalize wA.drewN nq = wB at *
                  obtain ⟨U, hU⟩ : ∃ U, U = ub 65533 := ⟨_, rfl⟩
                  have KB := hid (fun w' => put_bytes 65533 (by unfold isSc; omega) w')
                  have hlen : U.length ≤ 6 := by rw [hU]; exact ub_len 65533
                  rw [← hU] at KB
                  have HUX := hid hU
                  have hsz : (⟨U.toArray⟩ : ByteArray).size = U.length := by show U.toArray.size = _; rw [List.size_toArray]
                  clear hU
                  go_wp2_with fail
                  refine (KB.out _).mono ?_
                  rintro e w8 ⟨rfl, tt⟩
                  have H8 := hid (H7.out.new tt)
                  clear tt KB H7
                  have O5 := hid (H8.out.row hol)
                  go_wp2_with (at_builtin; (refine wpList_append_str_at rfl _ _ 97 9 rfl 5 i0 Tryd.underlying97 Tryd.underlying9 hi5 hz0 hz1 hz2 _ _ _ rfl O5.out ⟨U.toArray⟩ rfl (by unfold maxLen; omega) (by omega) ?_))
                  intro v' w9 hown hgrow hat
                  try rw [hsz] at hown
                  have G5 := hid (grew_str (l := o) (m := U) (by
                    rw [hol]
                    have := hown
                    rw [str_bv] at this
                    exact this) hgrow hat)
                  have H9 := hid (H8.out.app G5.out)
                  obtain ⟨a6, c6, hv6⟩ := own_shape hown
                  subst hv6
                  clear hown hgrow hat O5 G5 H8
                  have c1 := H9.out.rr.c1
                  have f1 := H9.out.rr.fr (i := 1)
                  go_wp2
                  go_roundg g
                  case measure => omega
                  case rel =>
                    have H10 := H9.out.at' (p + 1)
                    rw [show ((p + 1 : Nat) : Int) = (p : Int) + 1 from rfl] at H10
                    refine ⟨a6, n + U.length, c6, o ++ U, rfl, by rw [List.length_append, hol], by omega, hid ?_⟩
                    · refine .inl ⟨p + 1, by omega, by omega, H10, ?_⟩
                      rw [HUX.out]; exact HD.out
            have a2I : ¬ (ua : Int) < 56320 := by omega
            rw [if_neg (fun e => by have := e.1; unfold hiB at this; omega)] at HD
            by_cases a3 : ua ≤ 57343
            · have a3I : (ua : Int) ≤ 57343 := by omega
              rw [show lone ua = 65533 from if_pos (by omega)] at HD
              as_aux_lemma =>
                go_quiet (fail)
                have H7 := hid (H6.out.new ((Touch.refl (fun _ => False) wA).drewN nq))
                clear H6 c0 c1 c4
                generalize wA.drewN nq = wB at *
                obtain ⟨U, hU⟩ : ∃ U, U = ub 65533 := ⟨_, rfl⟩
                have KB := hid (fun w' => put_bytes 65533 (by unfold isSc; omega) w')
                have hlen : U.length ≤ 6 := by rw [hU]; exact ub_len 65533
                rw [← hU] at KB
                have HUX := hid hU
                have hsz : (⟨U.toArray⟩ : ByteArray).size = U.length := by show U.toArray.size = _; rw [List.size_toArray]
                clear hU
                go_wp2_with fail
                refine (KB.out _).mono ?_
                rintro e w8 ⟨rfl, tt⟩
                have H8 := hid (H7.out.new tt)
                clear tt KB H7
                have O5 := hid (H8.out.row hol)
                go_wp2_with (at_builtin; (refine wpList_append_str_at rfl _ _ 97 9 rfl 5 i0 Tryd.underlying97 Tryd.underlying9 hi5 hz0 hz1 hz2 _ _ _ rfl O5.out ⟨U.toArray⟩ rfl (by unfold maxLen; omega) (by omega) ?_))
                intro v' w9 hown hgrow hat
                try rw [hsz] at hown
                have G5 := hid (grew_str (l := o) (m := U) (by
                  rw [hol]
                  have := hown
                  rw [str_bv] at this
                  exact this) hgrow hat)
                have H9 := hid (H8.out.app G5.out)
                obtain ⟨a6, c6, hv6⟩ := own_shape hown
                subst hv6
                clear hown hgrow hat O5 G5 H8
                have c1 := H9.out.rr.c1
                have f1 := H9.out.rr.fr (i := 1)
                go_wp2
                go_roundg g
                case measure => omega
                case rel =>
                  have H10 := H9.out.at' (p + 1)
                  rw [show ((p + 1 : Nat) : Int) = (p : Int) + 1 from rfl] at H10
                  refine ⟨a6, n + U.length, c6, o ++ U, rfl, by rw [List.length_append, hol], by omega, hid ?_⟩
                  · refine .inl ⟨p + 1, by omega, by omega, H10, ?_⟩
                    rw [HUX.out]; exact HD.out
            · have a3I : ¬ (ua : Int) ≤ 57343 := by omega
              rw [show lone ua = ua from if_neg (by omega)] at HD
              as_aux_lemma =>
                go_quiet (fail)
                have H7 := hid (H6.out.new ((Touch.refl (fun _ => False) wA).drewN nq))
                clear H6 c0 c1 c4
                generalize wA.drewN nq = wB at *
                obtain ⟨U, hU⟩ : ∃ U, U = ub ua := ⟨_, rfl⟩
                have KB := hid (fun w' => put_bytes ua (by unfold isSc; omega) w')
                have hlen : U.length ≤ 6 := by rw [hU]; exact ub_len ua
                rw [← hU] at KB
                have HUX := hid hU
                have hsz : (⟨U.toArray⟩ : ByteArray).size = U.length := by show U.toArray.size = _; rw [List.size_toArray]
                clear hU
                go_wp2_with fail
                refine (KB.out _).mono ?_
                rintro e w8 ⟨rfl, tt⟩
                have H8 := hid (H7.out.new tt)
                clear tt KB H7
                have O5 := hid (H8.out.row hol)
                go_wp2_with (at_builtin; (refine wpList_append_str_at rfl _ _ 97 9 rfl 5 i0 Tryd.underlying97 Tryd.underlying9 hi5 hz0 hz1 hz2 _ _ _ rfl O5.out ⟨U.toArray⟩ rfl (by unfold maxLen; omega) (by omega) ?_))
                intro v' w9 hown hgrow hat
                try rw [hsz] at hown
                have G5 := hid (grew_str (l := o) (m := U) (by
                  rw [hol]
                  have := hown
                  rw [str_bv] at this
                  exact this) hgrow hat)
                have H9 := hid (H8.out.app G5.out)
                obtain ⟨a6, c6, hv6⟩ := own_shape hown
                subst hv6
                clear hown hgrow hat O5 G5 H8
                have c1 := H9.out.rr.c1
                have f1 := H9.out.rr.fr (i := 1)
                go_wp2
                go_roundg g
                case measure => omega
                case rel =>
                  have H10 := H9.out.at' (p + 1)
                  rw [show ((p + 1 : Nat) : Int) = (p : Int) + 1 from rfl] at H10
                  refine ⟨a6, n + U.length, c6, o ++ U, rfl, by rw [List.length_append, hol], by omega, hid ?_⟩
                  · refine .inl ⟨p + 1, by omega, by omega, H10, ?_⟩
                    rw [HUX.out]; exact HD.out
        rw [if_neg hu] at HD
        by_cases e34 : lk s t1 = 34
        · have hl1 := (lk_is (c := 34) e34).1
          as_aux_lemma =>
            rw [e34, show letB 34 = some 34 from by decide +kernel] at HD
            rw [e34] at K2
            refine K2.out.mono ?_
            rintro e w5 ⟨rfl, tt⟩
            have H3 := hid (H2.out.new tt)
            clear tt K2 H2
            go_upto_region 18 with fail
            have O3 := hid (H3.out.row hol)
            go_wp2_with (at_builtin; (refine wpList_append_own_at _ rfl _ _ 97 rfl 0 5 i0 (.int .u8 0) 1 1 Tryd.underlying97 hi5 hz0 hz1 hz2 rfl (by decide) _ _ _ rfl (O3.out.alloc _) ⟨w5.heap.size, 0, none⟩ 1 1 [.int .u8 34] rfl rfl (row_new w5 [.int .u8 34] 5) (by intro u hu; simp at hu; subst hu; rfl) (by unfold maxLen; omega) (by omega) (Nat.zero_le _) ?_))
            intro v' w4 hown hgrow _ hat
            have G4 := hid (grew_of (m := [34]) (l := o) (by rw [show bv [(34 : UInt8)] = [.int .u8 34] from rfl, hol]; exact hown) hgrow hat)
            have H4 := hid (H3.out.app G4.out)
            obtain ⟨a6, c6, hv6⟩ := own_shape hown
            subst hv6
            clear hown hgrow hat O3 G4 H3
            have c1 := H4.out.rr.c1
            have f1 := H4.out.rr.fr (i := 1)
            go_wp2
            go_roundg g
            case measure => omega
            case rel =>
              have H5 := H4.out.at' (t1 + 1)
              rw [show ((t1 + 1 : Nat) : Int) = (t1 : Int) + 1 from rfl] at H5
              exact ⟨a6, n + 1, c6, o ++ [34], rfl, by simp; omega, by omega, hid (.inl ⟨t1 + 1, by omega, by omega, H5, by rw [HT1.out]; exact HD.out⟩)⟩
        by_cases e92 : lk s t1 = 92
        · have hl1 := (lk_is (c := 92) e92).1
          as_aux_lemma =>
            rw [e92, show letB 92 = some 92 from by decide +kernel] at HD
            rw [e92] at K2
            refine K2.out.mono ?_
            rintro e w5 ⟨rfl, tt⟩
            have H3 := hid (H2.out.new tt)
            clear tt K2 H2
            go_upto_region 18 with fail
            have O3 := hid (H3.out.row hol)
            go_wp2_with (at_builtin; (refine wpList_append_own_at _ rfl _ _ 97 rfl 0 5 i0 (.int .u8 0) 1 1 Tryd.underlying97 hi5 hz0 hz1 hz2 rfl (by decide) _ _ _ rfl (O3.out.alloc _) ⟨w5.heap.size, 0, none⟩ 1 1 [.int .u8 92] rfl rfl (row_new w5 [.int .u8 92] 5) (by intro u hu; simp at hu; subst hu; rfl) (by unfold maxLen; omega) (by omega) (Nat.zero_le _) ?_))
            intro v' w4 hown hgrow _ hat
            have G4 := hid (grew_of (m := [92]) (l := o) (by rw [show bv [(92 : UInt8)] = [.int .u8 92] from rfl, hol]; exact hown) hgrow hat)
            have H4 := hid (H3.out.app G4.out)
            obtain ⟨a6, c6, hv6⟩ := own_shape hown
            subst hv6
            clear hown hgrow hat O3 G4 H3
            have c1 := H4.out.rr.c1
            have f1 := H4.out.rr.fr (i := 1)
            go_wp2
            go_roundg g
            case measure => omega
            case rel =>
              have H5 := H4.out.at' (t1 + 1)
              rw [show ((t1 + 1 : Nat) : Int) = (t1 : Int) + 1 from rfl] at H5
              exact ⟨a6, n + 1, c6, o ++ [92], rfl, by simp; omega, by omega, hid (.inl ⟨t1 + 1, by omega, by omega, H5, by rw [HT1.out]; exact HD.out⟩)⟩
        by_cases e47 : lk s t1 = 47
        · have hl1 := (lk_is (c := 47) e47).1
          as_aux_lemma =>
            rw [e47, show letB 47 = some 47 from by decide +kernel] at HD
            rw [e47] at K2
            refine K2.out.mono ?_
            rintro e w5 ⟨rfl, tt⟩
            have H3 := hid (H2.out.new tt)
            clear tt K2 H2
            go_upto_region 18 with fail
            have O3 := hid (H3.out.row hol)
            go_wp2_with (at_builtin; (refine wpList_append_own_at _ rfl _ _ 97 rfl 0 5 i0 (.int .u8 0) 1 1 Tryd.underlying97 hi5 hz0 hz1 hz2 rfl (by decide) _ _ _ rfl (O3.out.alloc _) ⟨w5.heap.size, 0, none⟩ 1 1 [.int .u8 47] rfl rfl (row_new w5 [.int .u8 47] 5) (by intro u hu; simp at hu; subst hu; rfl) (by unfold maxLen; omega) (by omega) (Nat.zero_le _) ?_))
            intro v' w4 hown hgrow _ hat
            have G4 := hid (grew_of (m := [47]) (l := o) (by rw [show bv [(47 : UInt8)] = [.int .u8 47] from rfl, hol]; exact hown) hgrow hat)
            have H4 := hid (H3.out.app G4.out)
            obtain ⟨a6, c6, hv6⟩ := own_shape hown
            subst hv6
            clear hown hgrow hat O3 G4 H3
            have c1 := H4.out.rr.c1
            have f1 := H4.out.rr.fr (i := 1)
            go_wp2
            go_roundg g
            case measure => omega
            case rel =>
              have H5 := H4.out.at' (t1 + 1)
              rw [show ((t1 + 1 : Nat) : Int) = (t1 : Int) + 1 from rfl] at H5
              exact ⟨a6, n + 1, c6, o ++ [47], rfl, by simp; omega, by omega, hid (.inl ⟨t1 + 1, by omega, by omega, H5, by rw [HT1.out]; exact HD.out⟩)⟩
        by_cases e98 : lk s t1 = 98
        · have hl1 := (lk_is (c := 98) e98).1
          as_aux_lemma =>
            rw [e98, show letB 98 = some 8 from by decide +kernel] at HD
            rw [e98] at K2
            refine K2.out.mono ?_
            rintro e w5 ⟨rfl, tt⟩
            have H3 := hid (H2.out.new tt)
            clear tt K2 H2
            go_upto_region 20 with fail
            have O3 := hid (H3.out.row hol)
            go_wp2_with (at_builtin; (refine wpList_append_own_at _ rfl _ _ 97 rfl 0 5 i0 (.int .u8 0) 1 1 Tryd.underlying97 hi5 hz0 hz1 hz2 rfl (by decide) _ _ _ rfl (O3.out.alloc _) ⟨w5.heap.size, 0, none⟩ 1 1 [.int .u8 8] rfl rfl (row_new w5 [.int .u8 8] 5) (by intro u hu; simp at hu; subst hu; rfl) (by unfold maxLen; omega) (by omega) (Nat.zero_le _) ?_))
            intro v' w4 hown hgrow _ hat
            have G4 := hid (grew_of (m := [8]) (l := o) (by rw [show bv [(8 : UInt8)] = [.int .u8 8] from rfl, hol]; exact hown) hgrow hat)
            have H4 := hid (H3.out.app G4.out)
            obtain ⟨a6, c6, hv6⟩ := own_shape hown
            subst hv6
            clear hown hgrow hat O3 G4 H3
            have c1 := H4.out.rr.c1
            have f1 := H4.out.rr.fr (i := 1)
            go_wp2
            go_roundg g
            case measure => omega
            case rel =>
              have H5 := H4.out.at' (t1 + 1)
              rw [show ((t1 + 1 : Nat) : Int) = (t1 : Int) + 1 from rfl] at H5
              exact ⟨a6, n + 1, c6, o ++ [8], rfl, by simp; omega, by omega, hid (.inl ⟨t1 + 1, by omega, by omega, H5, by rw [HT1.out]; exact HD.out⟩)⟩
        by_cases e116 : lk s t1 = 116
        · have hl1 := (lk_is (c := 116) e116).1
          as_aux_lemma =>
            rw [e116, show letB 116 = some 9 from by decide +kernel] at HD
            rw [e116] at K2
            refine K2.out.mono ?_
            rintro e w5 ⟨rfl, tt⟩
            have H3 := hid (H2.out.new tt)
            clear tt K2 H2
            go_upto_region 22 with fail
            have O3 := hid (H3.out.row hol)
            go_wp2_with (at_builtin; (refine wpList_append_own_at _ rfl _ _ 97 rfl 0 5 i0 (.int .u8 0) 1 1 Tryd.underlying97 hi5 hz0 hz1 hz2 rfl (by decide) _ _ _ rfl (O3.out.alloc _) ⟨w5.heap.size, 0, none⟩ 1 1 [.int .u8 9] rfl rfl (row_new w5 [.int .u8 9] 5) (by intro u hu; simp at hu; subst hu; rfl) (by unfold maxLen; omega) (by omega) (Nat.zero_le _) ?_))
            intro v' w4 hown hgrow _ hat
            have G4 := hid (grew_of (m := [9]) (l := o) (by rw [show bv [(9 : UInt8)] = [.int .u8 9] from rfl, hol]; exact hown) hgrow hat)
            have H4 := hid (H3.out.app G4.out)
            obtain ⟨a6, c6, hv6⟩ := own_shape hown
            subst hv6
            clear hown hgrow hat O3 G4 H3
            have c1 := H4.out.rr.c1
            have f1 := H4.out.rr.fr (i := 1)
            go_wp2
            go_roundg g
            case measure => omega
            case rel =>
              have H5 := H4.out.at' (t1 + 1)
              rw [show ((t1 + 1 : Nat) : Int) = (t1 : Int) + 1 from rfl] at H5
              exact ⟨a6, n + 1, c6, o ++ [9], rfl, by simp; omega, by omega, hid (.inl ⟨t1 + 1, by omega, by omega, H5, by rw [HT1.out]; exact HD.out⟩)⟩
        by_cases e110 : lk s t1 = 110
        · have hl1 := (lk_is (c := 110) e110).1
          as_aux_lemma =>
            rw [e110, show letB 110 = some 10 from by decide +kernel] at HD
            rw [e110] at K2
            refine K2.out.mono ?_
            rintro e w5 ⟨rfl, tt⟩
            have H3 := hid (H2.out.new tt)
            clear tt K2 H2
            go_upto_region 24 with fail
            have O3 := hid (H3.out.row hol)
            go_wp2_with (at_builtin; (refine wpList_append_own_at _ rfl _ _ 97 rfl 0 5 i0 (.int .u8 0) 1 1 Tryd.underlying97 hi5 hz0 hz1 hz2 rfl (by decide) _ _ _ rfl (O3.out.alloc _) ⟨w5.heap.size, 0, none⟩ 1 1 [.int .u8 10] rfl rfl (row_new w5 [.int .u8 10] 5) (by intro u hu; simp at hu; subst hu; rfl) (by unfold maxLen; omega) (by omega) (Nat.zero_le _) ?_))
            intro v' w4 hown hgrow _ hat
            have G4 := hid (grew_of (m := [10]) (l := o) (by rw [show bv [(10 : UInt8)] = [.int .u8 10] from rfl, hol]; exact hown) hgrow hat)
            have H4 := hid (H3.out.app G4.out)
            obtain ⟨a6, c6, hv6⟩ := own_shape hown
            subst hv6
            clear hown hgrow hat O3 G4 H3
            have c1 := H4.out.rr.c1
            have f1 := H4.out.rr.fr (i := 1)
            go_wp2
            go_roundg g
            case measure => omega
            case rel =>
              have H5 := H4.out.at' (t1 + 1)
              rw [show ((t1 + 1 : Nat) : Int) = (t1 : Int) + 1 from rfl] at H5
              exact ⟨a6, n + 1, c6, o ++ [10], rfl, by simp; omega, by omega, hid (.inl ⟨t1 + 1, by omega, by omega, H5, by rw [HT1.out]; exact HD.out⟩)⟩
        by_cases e102 : lk s t1 = 102
        · have hl1 := (lk_is (c := 102) e102).1
          as_aux_lemma =>
            rw [e102, show letB 102 = some 12 from by decide +kernel] at HD
            rw [e102] at K2
            refine K2.out.mono ?_
            rintro e w5 ⟨rfl, tt⟩
            have H3 := hid (H2.out.new tt)
            clear tt K2 H2
            go_upto_region 26 with fail
            have O3 := hid (H3.out.row hol)
            go_wp2_with (at_builtin; (refine wpList_append_own_at _ rfl _ _ 97 rfl 0 5 i0 (.int .u8 0) 1 1 Tryd.underlying97 hi5 hz0 hz1 hz2 rfl (by decide) _ _ _ rfl (O3.out.alloc _) ⟨w5.heap.size, 0, none⟩ 1 1 [.int .u8 12] rfl rfl (row_new w5 [.int .u8 12] 5) (by intro u hu; simp at hu; subst hu; rfl) (by unfold maxLen; omega) (by omega) (Nat.zero_le _) ?_))
            intro v' w4 hown hgrow _ hat
            have G4 := hid (grew_of (m := [12]) (l := o) (by rw [show bv [(12 : UInt8)] = [.int .u8 12] from rfl, hol]; exact hown) hgrow hat)
            have H4 := hid (H3.out.app G4.out)
            obtain ⟨a6, c6, hv6⟩ := own_shape hown
            subst hv6
            clear hown hgrow hat O3 G4 H3
            have c1 := H4.out.rr.c1
            have f1 := H4.out.rr.fr (i := 1)
            go_wp2
            go_roundg g
            case measure => omega
            case rel =>
              have H5 := H4.out.at' (t1 + 1)
              rw [show ((t1 + 1 : Nat) : Int) = (t1 : Int) + 1 from rfl] at H5
              exact ⟨a6, n + 1, c6, o ++ [12], rfl, by simp; omega, by omega, hid (.inl ⟨t1 + 1, by omega, by omega, H5, by rw [HT1.out]; exact HD.out⟩)⟩
        by_cases e114 : lk s t1 = 114
        · have hl1 := (lk_is (c := 114) e114).1
          as_aux_lemma =>
            rw [e114, show letB 114 = some 13 from by decide +kernel] at HD
            rw [e114] at K2
            refine K2.out.mono ?_
            rintro e w5 ⟨rfl, tt⟩
            have H3 := hid (H2.out.new tt)
            clear tt K2 H2
            go_upto_region 28 with fail
            have O3 := hid (H3.out.row hol)
            go_wp2_with (at_builtin; (refine wpList_append_own_at _ rfl _ _ 97 rfl 0 5 i0 (.int .u8 0) 1 1 Tryd.underlying97 hi5 hz0 hz1 hz2 rfl (by decide) _ _ _ rfl (O3.out.alloc _) ⟨w5.heap.size, 0, none⟩ 1 1 [.int .u8 13] rfl rfl (row_new w5 [.int .u8 13] 5) (by intro u hu; simp at hu; subst hu; rfl) (by unfold maxLen; omega) (by omega) (Nat.zero_le _) ?_))
            intro v' w4 hown hgrow _ hat
            have G4 := hid (grew_of (m := [13]) (l := o) (by rw [show bv [(13 : UInt8)] = [.int .u8 13] from rfl, hol]; exact hown) hgrow hat)
            have H4 := hid (H3.out.app G4.out)
            obtain ⟨a6, c6, hv6⟩ := own_shape hown
            subst hv6
            clear hown hgrow hat O3 G4 H3
            have c1 := H4.out.rr.c1
            have f1 := H4.out.rr.fr (i := 1)
            go_wp2
            go_roundg g
            case measure => omega
            case rel =>
              have H5 := H4.out.at' (t1 + 1)
              rw [show ((t1 + 1 : Nat) : Int) = (t1 : Int) + 1 from rfl] at H5
              exact ⟨a6, n + 1, c6, o ++ [13], rfl, by simp; omega, by omega, hid (.inl ⟨t1 + 1, by omega, by omega, H5, by rw [HT1.out]; exact HD.out⟩)⟩
        have hnone : letB (lk s t1) = none := by
          by_cases hm : lk s t1 = -1
          · rw [hm]
            rfl
          · obtain ⟨cc, hcc⟩ : ∃ cc : Nat, lk s t1 = (cc : Int) := ⟨(lk s t1).toNat, by omega⟩
            rw [hcc]
            exact letB_of cc (by omega) (by omega) (by omega) (by omega) (by omega) (by omega) (by omega) (by omega) (by omega)
        rw [hnone] at HD
        clear hnone
        generalize lk s t1 = y at *
        have nu : (y == 117) = false := by simpa using hu
        have n34 : (y == 34) = false := by simpa using e34
        have n92 : (y == 92) = false := by simpa using e92
        have n47 : (y == 47) = false := by simpa using e47
        have n98 : (y == 98) = false := by simpa using e98
        have n116 : (y == 116) = false := by simpa using e116
        have n110 : (y == 110) = false := by simpa using e110
        have n102 : (y == 102) = false := by simpa using e102
        have n114 : (y == 114) = false := by simpa using e114
        clear hu e34 e92 e47 e98 e116 e110 e102 e114
        refine K2.out.mono ?_
        rintro e w5 ⟨rfl, tt⟩
        have H3 := hid (H2.out.new tt)
        clear tt K2 H2
        have K3 := hid (KF.out w5 t1 H3.out.rr)
        go_wp2_with fail
        refine K3.out.mono ?_
        rintro e w6 ⟨rfl, hr, tt⟩
        have H4 := hid (H3.out.goes hr tt)
        clear hr tt K3 H3
        have c1 := H4.out.rr.c1
        have f1 := H4.out.rr.fr (i := 1)
        go_wp2
        go_roundg g
        case measure => omega
        case rel =>
          have H5 := H4.out.at' (t1 + 1)
          rw [show ((t1 + 1 : Nat) : Int) = (t1 : Int) + 1 from rfl] at H5
          exact ⟨a, n, c, o, rfl, hol, by omega, hid (.inr ⟨t1 + 1, t1, by omega, H5, by rw [← HD.out]⟩)⟩
      · rw [if_neg h92] at HD
        generalize lk s t' = x at *
        have n34 : (x == 34) = false := by simpa using hq
        have n92 : (x != 92) = true := by simpa using h92
        go_wp2_with fail
        refine K1.out.mono ?_
        rintro e w2 ⟨rfl, tt⟩
        have H1 := hid (H0.out.new tt)
        clear tt K1 hq h92
        have c1 := H1.out.rr.c1
        have f1 := H1.out.rr.fr (i := 1)
        have H2 := hid (H1.out.at' (t' + 1))
        rw [show ((t' + 1 : Nat) : Int) = (t' : Int) + 1 from rfl] at H2
        go_upto_region 11 with fail
        clear c1 f1 H1 H0
        generalize w2.setCell ⟨b, 1, none⟩ (.int .i64 ((t' : Int) + 1)) = w3 at *
        have hx0 : 0 ≤ x := by omega
        have HBV := hid (show bv [x.toNat.toUInt8] = [.int .u8 x] from by
          simp [bv]
          omega)
        have O3 := hid (H2.out.row hol)
        go_wp2_with (at_builtin; (refine wpList_append_own_at _ rfl _ _ 97 rfl 0 5 i0 (.int .u8 0) 1 1 Tryd.underlying97 hi5 hz0 hz1 hz2 rfl (by decide) _ _ _ rfl (O3.out.alloc _) ⟨w3.heap.size, 0, none⟩ 1 1 [.int .u8 x] rfl rfl (row_new w3 [.int .u8 x] 5) (by intro u hu; simp at hu; subst hu; rfl) (by unfold maxLen; omega) (by omega) (Nat.zero_le _) ?_))
        intro v' w4 hown hgrow _ hat
        have G4 := hid (grew_of (m := [x.toNat.toUInt8]) (l := o) (by rw [HBV.out, hol]; exact hown) hgrow hat)
        have H4 := hid (H2.out.app G4.out)
        obtain ⟨a6, c6, hv6⟩ := own_shape hown
        subst hv6
        clear hown hgrow hat O3 G4 H2
        go_wp2
        go_roundg g
        case measure => omega
        case rel => exact ⟨a6, n + 1, c6, o ++ [x.toNat.toUInt8], rfl, by simp; omega, by omega, hid (.inl ⟨t' + 1, by omega, by omega, H4.out, HD.out⟩)⟩
    · have H0 := hid htx
      have HD := hid hX
      clear htx hX HK
      have K1 := hid (KE.out wr t' k' H0.out.rr)
      go_wp2_with fail
      refine K1.out.mono ?_
      rintro e w2 ⟨rfl, tt⟩
      have H1 := hid (H0.out.new tt)
      clear tt K1
      have K2 := hid (KG.out w2 t' k' H1.out.rr)
      go_wp2_with fail
      refine K2.out.mono ?_
      rintro e w3 ⟨rfl, tt⟩
      have H2 := hid (H1.out.new tt)
      clear tt K2
      go_wp2
      go_ret
      rw [HD.out]
      exact ⟨_, t', rfl, ht', H2.out.rr, H2.out.tc⟩
end Go.Proofs.YtjpmjcadnnglnaaDoor
