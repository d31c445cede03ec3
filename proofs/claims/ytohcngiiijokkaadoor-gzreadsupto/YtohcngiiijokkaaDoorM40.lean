/- Texts of this proof, one behind the other: what each says stands ahead of it. -/
import Derived.Test.YtohcngiiijokkaaDoorM37
import Derived.Test.YtohcngiiijokkaaDoorM39
/- The document's symbols at any lengths, its told at any bytes; conditions: what is unpacked fits into memory. -/
namespace Go.Proofs.YtohcngiiijokkaaDoor
open Go.RowKit Go.Lib

set_option maxRecDepth 100000 in
set_option maxHeartbeats 4000000 in
theorem rsymbols_l (sb : Nat) (v : Value) (out : List Nat) (S : ByteArray) (t most : Nat) (al ad : Option Addr) (ll cl ld cd : Nat) (fl : Nat → Nat) (w : World) (h : Sv w sb v out S t most 0) (hl : ll ≤ 1024) (hf : ∀ i, fl i ≤ 15) (hil : Ints w al ll (fun i => (fl i : Nat))) (he : errOf fl ll ≠ 0) :
    Calls Tryd.prog 33 #[.pointer (some ⟨sb, 0, none⟩), .slice al ll cl, .slice ad ld cd] w fun e w' => e = .returned (.tuple #[]) ∧ SvStep w w' sb v out S t most (errOf fl ll) := by
  have K := hid (rnew_not al ll cl fl w hl hf hil he)
  have c4 := (sv_cells h).2.2.2.2
  have f4 := sv_free h 4
  have HS := hid h
  obtain ⟨er, her⟩ : ∃ er, er = errOf fl ll := ⟨_, rfl⟩
  rw [← her] at K he ⊢
  have hq : ((er : Int) == 0) = false := by simp; omega
  have hq2 : ((er : Int) != 0) = true := by simp; omega
  clear h her he hil
  go_enter Tryd.func33, Tryd.ntmps33
  go_wp2_with fail
  refine K.out.mono ?_
  rintro e w1 ⟨rfl, rfl⟩
  go_wp2
  exact bodyPost_ret (results_none (fn := Tryd.f33) rfl _ Tryd.prog _) rfl ⟨rfl, HS.out.err er, (Touch.refl (fun k => k = sb) w1).setCell (p := ⟨sb, 4, none⟩) (fun _ => rfl) _⟩

set_option maxRecDepth 100000 in
set_option maxHeartbeats 4000000 in
theorem rsymbols_d (sb : Nat) (v : Value) (out : List Nat) (S : ByteArray) (t most : Nat) (al ad : Option Addr) (ll cl ld cd : Nat) (fl fd : Nat → Nat) (w : World) (h : Sv w sb v out S t most 0) (hT : Inf.Tbl fl ll) (hil : Ints w al ll (fun i => (fl i : Nat))) (hl : ld ≤ 1024) (hf : ∀ i, fd i ≤ 15) (hid' : Ints w ad ld (fun i => (fd i : Nat))) (he : errOf fd ld ≠ 0) :
    Calls Tryd.prog 33 #[.pointer (some ⟨sb, 0, none⟩), .slice al ll cl, .slice ad ld cd] w fun e w' => e = .returned (.tuple #[]) ∧ SvStep w w' sb v out S t most (errOf fd ld) := by
  have K := hid (rnew_tbl al ll cl fl w hT hil)
  have HS := hid h
  have HI := hid hid'
  have HE := hid he
  obtain ⟨er, her⟩ : ∃ er, er = errOf fd ld := ⟨_, rfl⟩
  rw [← her] at he ⊢
  have hq : ((er : Int) == 0) = false := by simp; omega
  have hq2 : ((er : Int) != 0) = true := by simp; omega
  have HER := hid her
  clear h her he hil hid'
  go_enter Tryd.func33, Tryd.ntmps33
  go_wp2_with fail
  refine K.out.mono ?_
  rintro e w1 ⟨a1, c1, rfl, _, _, tc⟩
  have TC := hid tc
  have S1 := hid (HS.out.still tc)
  have K2 := hid (rnew_not ad ld cd fd w1 hl hf (HI.out.new tc) HE.out)
  rw [← HER.out] at K2
  have c4 := (sv_cells S1.out).2.2.2.2
  have f4 := sv_free S1.out 4
  clear tc K
  go_wp2_with fail
  refine K2.out.mono ?_
  rintro e w2 ⟨rfl, rfl⟩
  go_wp2
  exact bodyPost_ret (results_none (fn := Tryd.f33) rfl _ Tryd.prog _) rfl ⟨rfl, S1.out.err er, (TC.out.mono (S' := fun k => k = sb) (fun _ _ e => e.elim)).setCell (p := ⟨sb, 4, none⟩) (fun _ => rfl) _⟩

/-- What symbols at any lengths come to. -/
def SyAll (fl : Nat → Nat) (ll : Nat) (fd : Nat → Nat) (ld : Nat) (S : ByteArray) (most t : Nat) (out : List Nat) (er t' : Nat) (out' : List Nat) : Prop :=
  (errOf fl ll ≠ 0 ∧ er = errOf fl ll ∧ t' = t ∧ out' = out) ∨ (errOf fl ll = 0 ∧ errOf fd ld ≠ 0 ∧ er = errOf fd ld ∧ t' = t ∧ out' = out) ∨ (errOf fl ll = 0 ∧ errOf fd ld = 0 ∧ Inf.Sy fl ll fd ld S most t out er t' out')

theorem rsym_all (sb : Nat) (v : Value) (out0 : List Nat) (S : ByteArray) (t0 most : Nat) (al ad : Option Addr) (ll cl ld cd : Nat) (fl fd : Nat → Nat) (w : World) (h : Sv w sb v out0 S t0 most 0) (hs : S.size ≤ 140737488351232)
    (hl : ll ≤ 1024) (hfl : ∀ i, fl i ≤ 15) (hd : ld ≤ 1024) (hfd : ∀ i, fd i ≤ 15) (hzl : ∀ i, ll ≤ i → fl i = 0) (hzd : ∀ i, ld ≤ i → fd i = 0) (hil : Ints w al ll (fun i => (fl i : Nat))) (hid' : Ints w ad ld (fun i => (fd i : Nat)))
    (hal : ∀ b o, al = some ⟨b, o, none⟩ → b ≠ sb ∧ v.ownBlock ≠ some b) (had : ∀ b o, ad = some ⟨b, o, none⟩ → b ≠ sb ∧ v.ownBlock ≠ some b)
    (hm1 : most ≤ 9223372036854775807) (hb : Inf.Bd S most t0 out0) (hc : most ≤ 70368744177664 ∨ 400000 * S.size ≤ 70368744177664) :
    Calls Tryd.prog 33 #[.pointer (some ⟨sb, 0, none⟩), .slice al ll cl, .slice ad ld cd] w (RyPost (SyAll fl ll fd ld S most t0 out0) sb v most S w) := by
  by_cases h1 : errOf fl ll = 0
  · by_cases h2 : errOf fd ld = 0
    · refine (rsymbols_any sb v out0 S t0 most al ad ll cl ld cd fl fd w h hs ⟨hfl, h1, hl⟩ ⟨hfd, h2, hd⟩ hzl hzd hil hid' hal had hm1 hb hc).mono ?_
      rintro e w' ⟨he, er, t', out', hy, hbd, dn⟩
      exact ⟨he, er, t', out', .inr (.inr ⟨h1, h2, hy⟩), hbd, dn⟩
    · refine (rsymbols_d sb v out0 S t0 most al ad ll cl ld cd fl fd w h ⟨hfl, h1, hl⟩ hil hd hfd hid' h2).mono ?_
      rintro e w' ⟨he, st⟩
      exact ⟨he, _, t0, out0, .inr (.inl ⟨h1, h2, rfl, rfl, rfl⟩), hb, st.done⟩
  · refine (rsymbols_l sb v out0 S t0 most al ad ll cl ld cd fl w h hl hfl hil h1).mono ?_
    rintro e w' ⟨he, st⟩
    exact ⟨he, _, t0, out0, .inl ⟨h1, rfl, rfl, rfl⟩, hb, st.done⟩

theorem rtold_any (sb : Nat) (v : Value) (out : List Nat) (S : ByteArray) (t most : Nat) (w : World) (h : Sv w sb v out S t most 0) (hs : S.size ≤ 140737488351232) (ht : t ≤ 8 * S.size) :
    Calls Tryd.prog 34 #[.pointer (some ⟨sb, 0, none⟩)] w (RtPost sb v out S t most w) := by
  by_cases c1 : 8 * S.size < t + 5
  · refine (rtold_1 sb v out S t most w h hs ht c1).mono ?_
    rintro e w' ⟨he, st⟩
    exact .inl ⟨3, t, by decide, .head 3 t (head_1 c1), ht, st, he⟩
  by_cases c2 : 8 * S.size < t + 10
  · refine (rtold_2 sb v out S t most w h hs (by omega) c2).mono ?_
    rintro e w' ⟨he, st⟩
    exact .inl ⟨3, t + 5, by decide, .head 3 _ (head_2 c1 c2), by omega, st, he⟩
  by_cases c3 : 8 * S.size < t + 14
  · refine (rtold_3 sb v out S t most w h hs (by omega) c3).mono ?_
    rintro e w' ⟨he, st⟩
    exact .inl ⟨3, t + 10, by decide, .head 3 _ (head_3 c2 c3), by omega, st, he⟩
  by_cases c4 : 29 < Bt.rval S t 5 ∨ 29 < Bt.rval S (t + 5) 5
  · refine (rtold_4 sb v out S t most w h hs (by omega) c4).mono ?_
    rintro e w' ⟨he, st⟩
    exact .inl ⟨5, t + 14, by decide, .head 5 _ (head_4 c3 c4), by omega, st, he⟩
  exact rtold_rest sb v out S t most w h hs (by omega) (by omega) (by omega)

theorem below15 {told : List Nat} (h : ∀ x ∈ told, x ≤ 15) (i : Nat) : told.getD i 0 ≤ 15 := by
  rw [List.getD_eq_getElem?_getD]
  cases hg : told[i]? with
  | none => decide
  | some y => exact h y (List.mem_of_getElem? hg)
theorem lit_ints {w : World} {b o : Nat} {told : List Nat} {nl nd : Nat} (h : ∀ x ∈ told, x ≤ 15) (hl : told.length = nl + nd) (hi : Ints w (some ⟨b, o, none⟩) told.length (fun j => ((told.getD j 0 : Nat) : Int))) : Ints w (some ⟨b, o, none⟩) nl (fun i => ((Inf.litOf told nl i : Nat) : Int)) := by
  rcases hi with h0 | ⟨b', o', e, hb, hc⟩
  · exact .inl (by omega)
  · simp only [Option.some.injEq, Addr.mk.injEq] at e
    obtain ⟨rfl, rfl, _⟩ := e
    refine .inr ⟨b, o, rfl, hb, fun i hi => ?_⟩
    rw [hc i (by omega)]
    unfold Inf.litOf
    dsimp only
    rw [if_pos hi, Nat.min_eq_left (below15 h i)]
theorem dis_ints {w : World} {b o : Nat} {told : List Nat} {nl nd : Nat} (h : ∀ x ∈ told, x ≤ 15) (hl : told.length = nl + nd) (hi : Ints w (some ⟨b, o, none⟩) told.length (fun j => ((told.getD j 0 : Nat) : Int))) : Ints w (some ⟨b, o + nl, none⟩) nd (fun i => ((Inf.disOf told nl nd i : Nat) : Int)) := by
  rcases hi with h0 | ⟨b', o', e, hb, hc⟩
  · exact .inl (by omega)
  · simp only [Option.some.injEq, Addr.mk.injEq] at e
    obtain ⟨rfl, rfl, _⟩ := e
    refine .inr ⟨b, o + nl, rfl, hb, fun i hi => ?_⟩
    rw [Nat.add_assoc, hc (nl + i) (by omega)]
    unfold Inf.disOf
    dsimp only
    rw [if_pos hi, Nat.min_eq_left (below15 h (nl + i))]

/-- A block of kind 2, of what was told and of its symbols. -/
theorem bk_told {S : ByteArray} {most t t1 : Nat} {out : List Nat} {told : List Nat} {er t' : Nat} {out' : List Nat} (h : Inf.dyHead S t = none) (r : Inf.Le (Inf.dyF S t) 19 S (Inf.dyL S t + Inf.dyD S t) (Inf.dyT S t) [] 0 t1 told) (h256 : told.getD 256 0 ≠ 0)
    (k : SyAll (Inf.litOf told (Inf.dyL S t)) (Inf.dyL S t) (Inf.disOf told (Inf.dyL S t) (Inf.dyD S t)) (Inf.dyD S t) S most t1 out er t' out') : Inf.Bk S most 2 t out er t' out' := by
  have hd := Inf.Dy.done h t1 told r
  unfold Inf.dyEnd at hd
  rw [if_neg h256] at hd
  rcases k with ⟨h1, rfl, rfl, rfl⟩ | ⟨h1, h2, rfl, rfl, rfl⟩ | ⟨h1, h2, hy⟩
  · rw [if_pos h1] at hd
    exact .head t _ _ _ told hd h1
  · rw [if_neg (fun k => k h1)] at hd
    exact .head t _ _ _ told hd h2
  · rw [if_neg (fun k => k h1), h2] at hd
    exact .dyn t out t1 told hd er t' out' hy
theorem bk_told5 {S : ByteArray} {most t t1 : Nat} {out : List Nat} {told : List Nat} (h : Inf.dyHead S t = none) (r : Inf.Le (Inf.dyF S t) 19 S (Inf.dyL S t + Inf.dyD S t) (Inf.dyT S t) [] 0 t1 told) (h256 : told.getD 256 0 = 0) : Inf.Bk S most 2 t out 5 t1 out := by
  have hd := Inf.Dy.done h t1 told r
  unfold Inf.dyEnd at hd
  rw [if_pos h256] at hd
  exact .head t out 5 t1 told hd (by decide)
theorem told_place {S : ByteArray} {t t1 : Nat} {told : List Nat} (h : Inf.dyHead S t = none) (r : Inf.Le (Inf.dyF S t) 19 S (Inf.dyL S t + Inf.dyD S t) (Inf.dyT S t) [] 0 t1 told) : t ≤ t1 := dy_place (Inf.Dy.done h t1 told r)
end Go.Proofs.YtohcngiiijokkaaDoor
