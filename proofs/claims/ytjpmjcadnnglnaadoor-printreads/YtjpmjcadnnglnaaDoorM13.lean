/- Texts of this proof, one behind the other: what each says stands ahead of it. -/
import Derived.Test.YtjpmjcadnnglnaaDoorM12
/- A parser of JSON: escaped; conditions: the two tables lie there, the text has at most 1048576 bytes. -/
namespace Go.Proofs.YtjpmjcadnnglnaaDoor
open Go.RowKit
open Go.Lib

theorem usF_ok (s : ByteArray) : ∀ (k t : Nat) (us0 us : List Nat) (u : Nat), t ≤ s.size → usF s k t us0 = .ok (us, u) → u + 6 * us0.length = t + 6 * us.length ∧ t ≤ u ∧ u ≤ s.size
  | 0, t, us0, us, u, ht, h => by
    rw [usF] at h
    cases h
    omega
  | k + 1, t, us0, us, u, ht, h => by
    rw [usF] at h
    split at h
    · cases hE : unitE s (t + 2) with
      | error e => rw [hE] at h; cases h
      | ok nu =>
        obtain ⟨n, v⟩ := nu
        rw [hE] at h
        simp only at h
        obtain ⟨e1, e2, e3⟩ := unitE_ok hE
        obtain ⟨h1, h2, h3⟩ := usF_ok s k v _ us u e3 h
        rw [List.length_append, List.length_singleton] at h1
        omega
    · cases h
      omega
theorem flat_ub (l : List Nat) : (l.flatMap ub).length ≤ 6 * l.length := by
  have := flat_le (qo := ub) (rs := l) (fun x _ => ub_len x) l.length
  rwa [List.take_of_length_le (Nat.le_refl _)] at this
def usE (s : ByteArray) (t : Nat) : Except Nat (Bs × Nat) := match usF s s.size t [] with
  | .error e => .error e
  | .ok (us, u) => .ok ((su us).flatMap ub, u)
/-- What a letter behind \ tells. -/
def letB (x : Int) : Option UInt8 := if x = -1 then none else if indexByte lettersB.data.toList x.toNat.toUInt8 < 0 then none else some (signsB.data.toList.getD (indexByte lettersB.data.toList x.toNat.toUInt8).toNat 0)
/-- What an escape tells, and where it ends. -/
def escE (s : ByteArray) (t : Nat) : Except Nat (Bs × Nat) := if isU s t = true then usE s t else match letB (lk s (t + 1)) with
  | some c => .ok ([c], t + 2)
  | none => .error (t + 1)
theorem escE_ok {s : ByteArray} {t : Nat} {m : Bs} {u : Nat} (h92 : lk s t = 92) (h : escE s t = .ok (m, u)) : t < u ∧ u ≤ s.size ∧ m.length ≤ 3 * (u - t) := by
  have ht := (lk_is (c := 92) h92).1
  unfold escE at h
  split at h
  · rename_i hu
    unfold usE at h
    cases hE : usF s s.size t [] with
    | error e => rw [hE] at h; cases h
    | ok x =>
      obtain ⟨us, v⟩ := x
      rw [hE] at h
      simp only at h
      cases h
      obtain ⟨h1, h2, h3⟩ := usF_ok s s.size t [] us u (by omega) hE
      have h4 : us ≠ [] := by
        intro e
        subst e
        obtain ⟨g, hg⟩ : ∃ g, s.size = g + 1 := ⟨s.size - 1, by omega⟩
        rw [hg, usF, if_pos hu] at hE
        cases hE2 : unitE s (t + 2) with
        | error e => rw [hE2] at hE; cases hE
        | ok nu =>
          obtain ⟨n, w⟩ := nu
          rw [hE2] at hE
          simp only at hE
          obtain ⟨e1, e2, e3⟩ := unitE_ok hE2
          have := usF_ok s g w _ [] u e3 hE
          simp at this
          omega
      have h5 : 1 ≤ us.length := by
        cases us with
        | nil => exact absurd rfl h4
        | cons a b => simp
      have h6 := su_len us
      have h7 := flat_ub (su us)
      simp only [List.length_nil, Nat.mul_zero, Nat.add_zero] at h1
      omega
  · split at h
    · rename_i c hc
      cases h
      have : lk s (t + 1) ≠ -1 := by
        intro e
        rw [e] at hc
        cases hc
      have hl : t + 1 < s.size := by
        by_cases hl : t + 1 < s.size
        · exact hl
        · exact absurd (by rw [lk_by, if_neg hl]) this
      simp only [List.length_singleton]
      omega
    · cases h
def EscR (s : ByteArray) (b d : Nat) (l : Bs) (v : Value) (w : World) : Except Nat (Bs × Nat) → Ending → World → Prop
  | .ok (m, u), e, w' => ∃ v', e = .returned v' ∧ PG w w' b s u d v v' (l ++ m)
  | .error k, e, w' => e = thrown 20 k ∧ Ps w' b s k d ∧ Touch (fun k => k = b) w w'
theorem idx_lt : ∀ (l : List UInt8) (c : UInt8), indexByte l c < (l.length : Int)
  | [], _ => by simp [indexByte]
  | b :: l, c => by
    have ih := idx_lt l c
    have ge := indexByte_ge l c
    rw [indexByte, List.length_cons]
    split
    · omega
    · split <;> omega
theorem idx_let (c : UInt8) : -1 ≤ indexByte lettersB.data.toList c ∧ indexByte lettersB.data.toList c < 8 := by
  have h1 := idx_lt lettersB.data.toList c
  have h2 := indexByte_ge lettersB.data.toList c
  rw [show lettersB.data.toList.length = 8 from by decide] at h1
  exact ⟨h2, h1⟩
set_option maxRecDepth 100000 in
theorem index_sign (p : Nat) (hp : p < 8) (w : World) : (Instr.index 9 (.string ⟨#[34, 92, 8, 12, 10, 13, 9, 47]⟩) (.int .i64 (p : Nat))).run Tryd.prog w = .ok (.int .u8 ((signsB.data.toList.getD p 0).toNat : Int)) w := by
  rcases (show p = 0 ∨ p = 1 ∨ p = 2 ∨ p = 3 ∨ p = 4 ∨ p = 5 ∨ p = 6 ∨ p = 7 by omega) with rfl | rfl | rfl | rfl | rfl | rfl | rfl | rfl <;> rfl
set_option maxRecDepth 100000 in
set_option maxHeartbeats 8000000 in
theorem escaped_any (b : Nat) (s : ByteArray) (t d : Nat) (l : Bs) (v : Value) (w : World) (h : Ps w b s t d) (ho : OB w v l) (hb : v.ownBlock ≠ some b) (hb2 : 2 ≤ b) (ht : Tabs w) (hs : s.size ≤ 1048576) (h92 : lk s t = 92) (hl : l.length ≤ 1073741824) :
    Calls Tryd.prog 62 #[.pointer (some ⟨b, 0, none⟩), v] w fun e w' => EscR s b d l v w (escE s t) e w' := by
  obtain ⟨i0, hi5, hz0, hz1, hz2⟩ := info_parts info5b
  obtain ⟨ad, cp, hv⟩ := own_shape ho
  subst hv
  obtain ⟨N, hN⟩ : ∃ N, l.length = N := ⟨_, rfl⟩
  have OW := hid (show OB w (.slice ad N cp) l from by rw [← hN]; exact ho)
  have htl : t < s.size := (lk_is (c := 92) h92).1
  have HJ := hid (fun w' (hp : Ps w' b s t d) (ho' : OB w' (.slice ad l.length cp) l) (ht' : Tabs w') (hU : isU s t = true) => junits_any b s t d l (.slice ad l.length cp) w' hp ho' hb hb2 ht' hs (Nat.le_of_lt htl) hl hU)
  rw [hN] at hb hl HJ ⊢
  have HN := hid hN
  have NB := hid hb
  have HTB := hid ht
  clear hN ho hb ht
  have c0 := h.c0
  have c1 := h.c1
  have htI : (t : Int) ≤ (s.size : Int) := by omega
  have ht0 : (0 : Int) ≤ (t : Int) := by omega
  have hU := pre_u s t (Nat.le_of_lt htl)
  have KH := hid (fun w => hasPrefix_any (s.extract t s.size) bu w)
  rw [hU] at KH
  have HP := hid h
  obtain ⟨X, hX⟩ : ∃ X, X = escE s t := ⟨_, rfl⟩
  have HX := hid hX.symm
  rw [← hX]
  clear hU h hX
  by_cases hu : isU s t = true
  · rw [show escE s t = usE s t from by unfold escE; rw [if_pos hu]] at HX
    rw [hu] at KH
    unfold bu at KH
    have HU := hid hu
    clear hu h92
    go_enter Tryd.func62, Tryd.ntmps62
    go_wp2_with fail
    go_quiet (exact (KH.out _).mono (fun e w' h => ⟨h.1, _, h.2.symm⟩))
    have TQ := (Touch.refl (fun _ => False) w).drewN nq
    have H1 := hid (HP.out.new TQ)
    have T1 := hid TQ
    have O1 := hid (OW.out.kept TQ (fun _ _ e => e))
    have KJ := hid (HJ.out _ H1.out O1.out (HTB.out.new TQ) HU.out)
    clear HP OW TQ c0 c1 KH HTB HJ
    generalize w.drewN nq = w1 at *
    cases hE : usF s s.size t [] with
    | error k =>
      rw [show usE s t = .error k from by unfold usE; rw [hE]] at HX
      rw [hE] at KJ
      unfold UsR thrown at KJ
      clear hE
      go_wp2_with fail
      refine KJ.out.mono ?_
      rintro e w2 ⟨rfl, hp, tt⟩
      have H2 := hid hp
      have T2 := hid (Touch.trans (S := fun k => k = b) (T1.out.mono (fun _ _ e => e.elim)) tt (fun _ _ e => e))
      clear hp tt KJ
      go_wp2
      refine ⟨rfl, ?_⟩
      rw [← HX.out]
      exact ⟨rfl, H2.out, T2.out⟩
    | ok x =>
      obtain ⟨us, u⟩ := x
      rw [show usE s t = .ok ((su us).flatMap ub, u) from by unfold usE; rw [hE]] at HX
      rw [hE] at KJ
      unfold UsR at KJ
      clear hE
      go_wp2_with fail
      refine KJ.out.mono ?_
      rintro e w2 ⟨v', rfl, pg⟩
      have G := hid pg
      clear pg KJ
      go_wp2
      go_ret
      rw [← HX.out]
      exact ⟨v', rfl, G.out.own, G.out.ps, Touch.trans (T1.out.mono (fun _ _ e => e.elim)) G.out.touch (fun _ _ e => e), G.out.pos.imp id (fun ⟨g, a, c⟩ => ⟨g, a, Nat.le_trans T1.out.size c⟩)⟩
  · rw [Bool.not_eq_true] at hu
    rw [show escE s t = (match letB (lk s (t + 1)) with | some c => .ok ([c], t + 2) | none => .error (t + 1)) from by unfold escE; rw [if_neg (by rw [hu]; decide)]] at HX
    rw [hu] at KH
    unfold bu at KH
    have KN := hid (fun w' (hp : Ps w' b s t d) => need_any b s ⟨#[92]⟩ t d w' hp hs (Nat.le_of_lt htl) (by decide))
    rw [show needE s (⟨#[92]⟩ : ByteArray).data.toList t = .ok (t + 1) from by
      show needE s [92] t = _
      rw [needE, if_pos (by rw [h92]; rfl), needE]] at KN
    unfold NeedR at KN
    have KL := hid (fun w' (hp : Ps w' b s (t + 1) d) => look_any b s (t + 1) d w' hp hs htl)
    have KW := hid (fun w' (hp : Ps w' b s (t + 1) d) => wrong_any b s (t + 1) d 20 w' hp)
    unfold thrown at KW
    have KI := hid (fun (c : Int) w => byte_index lettersB c w)
    have hx1 := (lk_in s (t + 1)).1
    have hx2 := (lk_in s (t + 1)).2
    clear hu h92 HJ HTB
    generalize lk s (t + 1) = x at *
    go_enter Tryd.func62, Tryd.ntmps62
    go_wp2_with fail
    go_quiet (exact (KH.out _).mono (fun e w' h => ⟨h.1, _, h.2.symm⟩))
    have TQ := (Touch.refl (fun _ => False) w).drewN nq
    have H1 := hid (HP.out.new TQ)
    have T1 := hid (TQ.mono (S' := fun k => k = b) (fun _ _ e => e.elim))
    clear HP TQ c0 c1 KH
    generalize w.drewN nq = w1 at *
    go_wp2_with fail
    refine (KN.out _ H1.out).mono ?_
    rintro e w2 ⟨rfl, hp, tt⟩
    have H2 := hid hp
    have T2 := hid (T1.out.trans tt (fun _ _ e => e))
    clear hp tt KN H1 T1
    go_wp2_with fail
    refine (KL.out _ H2.out).mono ?_
    rintro e w3 ⟨rfl, tt⟩
    have H3 := hid (H2.out.new tt)
    have T3 := hid (T2.out.trans tt (fun _ _ e => e.elim))
    clear tt KL H2 T2
    by_cases hm : x = -1
    · rw [show letB x = none from by unfold letB; rw [if_pos hm]] at HX
      subst hm
      go_wp2_with fail
      refine (KW.out _ H3.out).mono ?_
      rintro e w4 ⟨rfl, tt⟩
      have H4 := hid (H3.out.new tt)
      have T4 := hid (T3.out.trans tt (fun _ _ e => e.elim))
      clear tt KW H3 T3
      go_wp2
      refine ⟨rfl, ?_⟩
      rw [← HX.out]
      exact ⟨rfl, H4.out, T4.out⟩
    · have hmB : (x != -1) = true := by simpa using hm
      have HI := hid (idx_let x.toNat.toUInt8)
      have HL := hid (show letB x = if indexByte lettersB.data.toList x.toNat.toUInt8 < 0 then none else some (signsB.data.toList.getD (indexByte lettersB.data.toList x.toNat.toUInt8).toNat 0) from by unfold letB; rw [if_neg hm])
      have KI2 := hid (KI.out x)
      generalize indexByte lettersB.data.toList x.toNat.toUInt8 = p at *
      unfold lettersB at KI2
      have hx0 : 0 ≤ x := by omega
      clear KI hm
      go_wp2_with fail
      refine (KI2.out _).mono ?_
      rintro e w3 ⟨rfl, rfl⟩
      clear KI2
      by_cases hp : p < 0
      · rw [show letB x = none from by rw [HL.out, if_pos hp]] at HX
        go_wp2_with fail
        refine (KW.out _ H3.out).mono ?_
        rintro e w4 ⟨rfl, tt⟩
        have H4 := hid (H3.out.new tt)
        have T4 := hid (T3.out.trans tt (fun _ _ e => e.elim))
        clear tt KW H3 T3
        go_wp2
        refine ⟨rfl, ?_⟩
        rw [← HX.out]
        exact ⟨rfl, H4.out, T4.out⟩
      · obtain ⟨o, rfl⟩ : ∃ o : Nat, p = (o : Int) := ⟨p.toNat, by omega⟩
        have ho8 : o < 8 := by have := HI.out; omega
        rw [show letB x = some (signsB.data.toList.getD o 0) from by rw [HL.out, if_neg hp, Int.toNat_natCast]] at HX
        have ixs := fun w => index_sign o ho8 w
        generalize signsB.data.toList.getD o 0 = c at *
        clear HI HL KW
        have c1 := H3.out.c1
        have f1 := H3.out.fr (i := 1)
        have e2 : ((t : Int) + 1 + 1) = ((t + 2 : Nat) : Int) := by omega
        have H4 := hid (H3.out.set (t + 2))
        have T4 := hid (Touch.setCell (S := fun k => k = b) T3.out (p := ⟨b, 1, none⟩) (fun _ => rfl) (.int .i64 ((t + 2 : Nat) : Int)))
        have O4 := hid (show (w3.setCell ⟨b, 1, none⟩ (.int .i64 ((t + 2 : Nat) : Int))).ownsRow 0 5 1 (.slice ad N cp) N (bv l) from by
          have := OW.out.kept T4.out (fun g e e2 => NB.out (by rw [e, e2]))
          unfold OB at this
          rw [HN.out] at this
          exact this)
        rw [← e2] at H4 T4 O4
        clear OW H3 T3 e2
        go_upto_region 11 with fail
        generalize w3.setCell ⟨b, 1, none⟩ (.int .i64 ((t : Int) + 1 + 1)) = w4 at *
        go_wp2_with (at_builtin; (refine wpList_append_own_at _ rfl _ _ 97 rfl 0 5 i0 (.int .u8 0) 1 1 Tryd.underlying97 hi5 hz0 hz1 hz2 rfl (by decide) _ _ _ rfl (O4.out.alloc _) ⟨w4.heap.size, 0, none⟩ 1 1 [.int .u8 ((c.toNat : Nat) : Int)] rfl rfl (row_new w4 [.int .u8 ((c.toNat : Nat) : Int)] 5) (by intro u hu; simp at hu; subst hu; rfl) (by unfold maxLen; omega) (by omega) (Nat.zero_le _) ?_))
        intro v' w5 hown hgrow _ hat
        have G5 := hid (grew_of (m := [c]) (l := l) (by rw [HN.out]; exact hown) hgrow hat)
        clear hown hgrow hat O4
        go_wp2
        go_ret
        rw [← HX.out]
        refine ⟨v', rfl, G5.out.own, ?_, ?_, ?_⟩
        · exact (G5.out.touch.block b H4.out.lt (fun e => NB.out e)).trans H4.out
        · exact Touch.trans (T4.out.mono (fun _ _ e => .inl e)) G5.out.touch (fun _ _ e => .inr e)
        · exact G5.out.pos.imp id (fun ⟨g, a, c⟩ => ⟨g, a, Nat.le_trans T4.out.size c⟩)
end Go.Proofs.YtjpmjcadnnglnaaDoor

/- A parser of JSON: quoted: a text in quotes; conditions: the two tables lie there, the text has at most 1048576 bytes. -/
namespace Go.Proofs.YtjpmjcadnnglnaaDoor
open Go.RowKit
open Go.Lib

def qdF (s : ByteArray) : Nat → Nat → Bs → Except Nat (Bs × Nat)
  | 0, t, _ => .error t
  | k + 1, t, out => if lk s t = 34 then .ok (out, t + 1) else if lk s t < 32 then .error t else if lk s t = 92 then
      match escE s t with
      | .error e => .error e
      | .ok (m, u) => qdF s k u (out ++ m)
    else qdF s k (t + 1) (out ++ [(lk s t).toNat.toUInt8])
/-- What a text in quotes tells, and where it ends. -/
def quotE (s : ByteArray) (t : Nat) : Except Nat (Bs × Nat) := match needE s [34] t with
  | .error e => .error e
  | .ok u => qdF s (s.size + 1) u []
def QdR (s : ByteArray) (b d : Nat) (w : World) : Except Nat (Bs × Nat) → Ending → World → Prop
  | .ok (o, u), e, w' => e = .returned (.string ⟨o.toArray⟩) ∧ Ps w' b s u d ∧ Touch (fun k => k = b) w w'
  | .error k, e, w' => e = thrown 20 k ∧ Ps w' b s k d ∧ Touch (fun k => k = b) w w'
theorem need_ok (s : ByteArray) : ∀ (p : Bs) (t u : Nat), t ≤ s.size → needE s p t = .ok u → u = t + p.length ∧ u ≤ s.size
  | [], t, u, ht, h => by
    rw [needE] at h
    cases h
    exact ⟨rfl, ht⟩
  | c :: p, t, u, ht, h => by
    rw [needE] at h
    split at h
    · rename_i hc
      have := lk_lt' hc
      obtain ⟨h1, h2⟩ := need_ok s p (t + 1) u (by omega) h
      rw [List.length_cons]
      omega
    · cases h
set_option maxRecDepth 100000 in
set_option maxHeartbeats 8000000 in
theorem quoted_any (b : Nat) (s : ByteArray) (t d : Nat) (w : World) (h : Ps w b s t d) (hb2 : 2 ≤ b) (ht : Tabs w) (hs : s.size ≤ 1048576) (htt : t ≤ s.size) :
    Calls Tryd.prog 57 #[.pointer (some ⟨b, 0, none⟩)] w fun e w' => QdR s b d w (quotE s t) e w' := by
  obtain ⟨i0, hi5, hz0, hz1, hz2⟩ := info_parts info5b
  obtain ⟨X, hX⟩ : ∃ X, X = quotE s t := ⟨_, rfl⟩
  have HX := hid hX.symm
  rw [← hX]
  clear hX
  unfold quotE at HX
  have HB2 := hid hb2
  have HTB := hid ht
  have HBW := hid h.lt
  have KN := hid (need_any b s ⟨#[34]⟩ t d w h hs htt (by decide))
  rw [show needE s (⟨#[34]⟩ : ByteArray).data.toList t = needE s [34] t from rfl] at KN
  clear h hb2 ht
  cases hE : needE s [34] t with
  | error k =>
    rw [hE] at KN HX
    unfold NeedR thrown at KN
    clear hE
    go_enter Tryd.func57, Tryd.ntmps57
    go_wp2_with fail
    refine KN.out.mono ?_
    rintro e w1 ⟨rfl, hp, tt⟩
    have H1 := hid hp
    have T1 := hid tt
    clear hp tt KN
    go_wp2
    refine ⟨rfl, ?_⟩
    rw [← HX.out]
    exact ⟨rfl, H1.out, T1.out⟩
  | ok t0 =>
    obtain ⟨ht0, ht1⟩ := need_ok s _ _ _ htt hE
    rw [hE] at KN HX
    unfold NeedR at KN
    clear hE
    go_enter Tryd.func57, Tryd.ntmps57
    go_wp2_with fail
    refine KN.out.mono ?_
    rintro e w1 ⟨rfl, hp, tt⟩
    have H1 := hid hp
    have T1 := hid tt
    clear hp tt KN
    have HX2 := hid (show qdF s (s.size + 1) t0 [] = X from HX.out)
    clear HX ht0
    go_wp2_with fail
    go_loopg [3] (s.size + 1) (fun gk v3 wq => ∃ (t' : Nat) (o : Bs) (a : Option Addr) (n c : Nat), v3 = .slice a n c ∧ t' ≤ s.size ∧ s.size < t' + gk ∧ n ≤ 3 * t' ∧ Hid (o.length = n) ∧ Hid (Ps wq b s t' d) ∧ Hid (OB wq (.slice a n c) o) ∧ Hid (∀ g, (Value.slice a n c).ownBlock = some g → w.heap.size ≤ g) ∧ Hid (qdF s gk t' o = X) ∧ Hid (Touch (fun k => k = b) w wq))
    case atStart => exact ⟨t0, [], none, 0, 0, rfl, ht1, by omega, by omega, hid rfl, H1, hid (OB.nil _), hid (fun g e => by cases e), HX2, T1⟩
    case round =>
      obtain ⟨t', o, a, n, c, rfl, htl, hgk, hn3, HN, HK, OK, NK, HD, TK⟩ := hrel
      clear H1 HX2 T1
      obtain ⟨g, rfl⟩ : ∃ g, gk = g + 1 := ⟨gk - 1, by omega⟩
      have KT := hid (fun w' (hp : Ps w' b s t' d) => take_any b s t' d 34 w' hp hs htl (by decide))
      have KL := hid (fun w' (hp : Ps w' b s t' d) => look_any b s t' d w' hp hs htl)
      rw [qdF] at HD
      have NB := hid (show (Value.slice a n c).ownBlock ≠ some b from fun e => by have := NK.out b e; have := HBW.out; omega)
      by_cases hq : lk s t' = 34
      · rw [if_pos hq] at HD
        rw [show ((34 : Nat) : Int) = 34 from rfl, decide_eq_true hq, if_pos hq] at KT
        clear hq KL
        go_wp2_with fail
        refine (KT.out _ HK.out).mono ?_
        rintro e w2 ⟨rfl, hp, tt⟩
        have H2 := hid hp
        have T2 := hid (TK.out.trans tt (fun _ _ e => e))
        have O2 := hid (OK.out.kept tt (fun g e e2 => NB.out (by rw [e, e2])))
        clear hp tt KT HK TK OK
        have hconv := O2.out.conv
        go_wp2
        go_ret
        rw [← HD.out]
        exact ⟨rfl, H2.out, T2.out⟩
      · rw [if_neg hq] at HD
        rw [show ((34 : Nat) : Int) = 34 from rfl, decide_eq_false hq, if_neg hq] at KT
        by_cases h32 : lk s t' < 32
        · rw [if_pos h32] at HD
          have KW := hid (fun w' (hp : Ps w' b s t' d) => wrong_any b s t' d 20 w' hp)
          unfold thrown at KW
          clear hq
          generalize lk s t' = x at *
          go_wp2_with fail
          refine (KT.out _ HK.out).mono ?_
          rintro e w2 ⟨rfl, hp, tt⟩
          have H2 := hid hp
          have T2 := hid (TK.out.trans tt (fun _ _ e => e))
          clear hp tt KT HK TK OK
          go_wp2_with fail
          refine (KL.out _ H2.out).mono ?_
          rintro e w3 ⟨rfl, tt⟩
          have H3 := hid (H2.out.new tt)
          have T3 := hid (T2.out.trans tt (fun _ _ e => e.elim))
          clear tt KL H2 T2
          go_wp2_with fail
          refine (KW.out _ H3.out).mono ?_
          rintro e w4 ⟨rfl, tt⟩
          have H4 := hid (H3.out.new tt)
          have T4 := hid (T3.out.trans tt (fun _ _ e => e.elim))
          clear tt KW H3 T3
          go_wp2
          refine ⟨rfl, ?_⟩
          rw [← HD.out]
          exact ⟨rfl, H4.out, T4.out⟩
        · rw [if_neg h32] at HD
          have hlt : t' < s.size := by
            by_cases hl : t' < s.size
            · exact hl
            · exfalso
              apply h32
              rw [lk_by, if_neg hl]
              decide
          by_cases h92 : lk s t' = 92
          · rw [if_pos h92] at HD
            have KE := hid (fun w' (hp : Ps w' b s t' d) (ho : OB w' (.slice a n c) o) (ht' : Tabs w') => escaped_any b s t' d o (.slice a n c) w' hp ho NB.out HB2.out ht' hs h92 (by have := HN.out; omega))
            have HK9 := hid h92
            rw [h92] at KL
            clear hq h32 h92
            go_wp2_with fail
            refine (KT.out _ HK.out).mono ?_
            rintro e w2 ⟨rfl, hp, tt⟩
            have H2 := hid hp
            have T2 := hid (TK.out.trans tt (fun _ _ e => e))
            have O2 := hid (OK.out.kept tt (fun g e e2 => NB.out (by rw [e, e2])))
            clear hp tt KT HK TK OK
            go_wp2_with fail
            refine (KL.out _ H2.out).mono ?_
            rintro e w3 ⟨rfl, tt⟩
            have H3 := hid (H2.out.new tt)
            have T3 := hid (T2.out.trans tt (fun _ _ e => e.elim))
            have O3 := hid (O2.out.kept tt (fun _ _ e => e))
            clear tt KL H2 T2 O2
            have KE3 := hid (KE.out w3 H3.out O3.out (HTB.out.kept T3.out (fun e => by have := HB2.out; omega) (fun e => by have := HB2.out; omega)))
            clear KE
            cases hE : escE s t' with
            | error k =>
              rw [hE] at KE3 HD
              unfold EscR thrown at KE3
              clear hE
              go_wp2_with fail
              refine KE3.out.mono ?_
              rintro e w4 ⟨rfl, hp, tt⟩
              have H4 := hid hp
              have T4 := hid (T3.out.trans tt (fun _ _ e => e))
              clear hp tt KE3 H3 T3 O3
              go_wp2
              refine ⟨rfl, ?_⟩
              rw [← HD.out]
              exact ⟨rfl, H4.out, T4.out⟩
            | ok x =>
              obtain ⟨m, u⟩ := x
              rw [hE] at KE3 HD
              obtain ⟨e1, e2, e3⟩ := escE_ok HK9.out hE
              unfold EscR at KE3
              clear hE
              go_wp2_with fail
              refine KE3.out.mono ?_
              rintro e w4 ⟨v', rfl, pg⟩
              have G := hid pg
              clear pg KE3
              obtain ⟨a6, c6, hv6⟩ := own_shape G.out.own
              obtain ⟨n6, hn6⟩ : ∃ n6, (o ++ m).length = n6 := ⟨_, rfl⟩
              rw [hn6] at hv6
              subst hv6
              have HN6 := hid hn6
              have h6 : n6 ≤ 3 * u := by
                have := HN.out
                rw [List.length_append] at hn6
                omega
              clear hn6
              go_wp2
              go_roundg g
              case measure => omega
              case rel =>
                refine ⟨u, o ++ m, a6, n6, c6, rfl, e2, by omega, h6, HN6, hid G.out.ps, hid G.out.own, ?_, HD, ?_⟩
                · refine hid (fun g e => ?_)
                  rcases G.out.pos with e2 | ⟨g2, e2, h2⟩
                  · exact NK.out g (by rw [← e2]; exact e)
                  · rw [e2] at e
                    cases e
                    exact Nat.le_trans T3.out.size h2
                · exact hid (T3.out.trans G.out.touch (fun i hi e => by
                    rcases e with e | e
                    · exact e
                    · have := NK.out i e
                      omega))
          · rw [if_neg h92] at HD
            have h92B : (lk s t' == 92) = false := by simpa using h92
            have hx2 := (lk_in s t').2
            generalize lk s t' = x at *
            have hx0 : 0 ≤ x := by omega
            clear hq h92
            go_wp2_with fail
            refine (KT.out _ HK.out).mono ?_
            rintro e w2 ⟨rfl, hp, tt⟩
            have H2 := hid hp
            have T2 := hid (TK.out.trans tt (fun _ _ e => e))
            have O2 := hid (OK.out.kept tt (fun g e e2 => NB.out (by rw [e, e2])))
            clear hp tt KT HK TK OK
            go_wp2_with fail
            refine (KL.out _ H2.out).mono ?_
            rintro e w3 ⟨rfl, tt⟩
            have H3 := hid (H2.out.new tt)
            have T3 := hid (T2.out.trans tt (fun _ _ e => e.elim))
            have O3 := hid (show w3.ownsRow 0 5 1 (.slice a n c) n (bv o) from by
              have := O2.out.kept tt (fun _ _ e => e)
              unfold OB at this
              rw [HN.out] at this
              exact this)
            clear tt KL H2 T2 O2
            have HBV := hid (show bv [x.toNat.toUInt8] = [.int .u8 x] from by
              simp [bv]
              omega)
            go_wp2_with (at_builtin; (refine wpList_append_own_at _ rfl _ _ 97 rfl 0 5 i0 (.int .u8 0) 1 1 Tryd.underlying97 hi5 hz0 hz1 hz2 rfl (by decide) _ _ _ rfl (O3.out.alloc _) ⟨w3.heap.size, 0, none⟩ 1 1 [.int .u8 x] rfl rfl (row_new w3 [.int .u8 x] 5) (by intro u hu; simp at hu; subst hu; rfl) (by unfold maxLen; omega) (by omega) (Nat.zero_le _) ?_))
            intro v' w4 hown hgrow _ hat
            have G4 := hid (grew_of (m := [x.toNat.toUInt8]) (l := o) (by rw [HBV.out, HN.out]; exact hown) hgrow hat)
            clear hown hgrow hat O3 HBV
            obtain ⟨a6, c6, hv6⟩ := own_shape G4.out.own
            have hl6 : (o ++ [x.toNat.toUInt8]).length = n + 1 := by rw [List.length_append, HN.out, List.length_singleton]
            rw [hl6] at hv6
            subst hv6
            have HL6 := hid hl6
            have P4 := hid (show Ps w4 b s t' d from (G4.out.touch.block b H3.out.lt (fun e => NB.out e)).trans H3.out)
            have T4 := hid (T3.out.trans G4.out.touch (fun i hi e => by have := NK.out i e; omega))
            have N4 := hid (show ∀ g, (Value.slice a6 (n + 1) c6).ownBlock = some g → w.heap.size ≤ g from fun g e => by
              rcases G4.out.pos with e2 | ⟨g2, e2, h2⟩
              · exact NK.out g (by rw [← e2]; exact e)
              · rw [e2] at e
                cases e
                exact Nat.le_trans T3.out.size h2)
            clear H3 T3 hl6
            have c1 := P4.out.c1
            have f1 := P4.out.fr (i := 1)
            go_wp2
            have e1 : ((t' + 1 : Nat) : Int) = (t' : Int) + 1 := by omega
            have P5 := hid (P4.out.set (t' + 1))
            rw [e1] at P5
            have T5 := Touch.setCell (S := fun k => k = b) (Touch.refl _ w4) (p := ⟨b, 1, none⟩) (fun _ => rfl) (.int .i64 ((t' : Int) + 1))
            have O5 := hid (G4.out.own.kept T5 (fun g e e2 => by have := N4.out g e; have := HBW.out; omega))
            have TF := hid (T4.out.trans T5 (fun _ _ e => e))
            clear T5
            go_roundg g
            case measure => omega
            case rel => exact ⟨t' + 1, o ++ [x.toNat.toUInt8], a6, n + 1, c6, rfl, by omega, by omega, by omega, HL6, P5, O5, N4, HD, TF⟩
end Go.Proofs.YtjpmjcadnnglnaaDoor
