/- Texts of this proof, one behind the other: what each says stands ahead of it. -/
import Derived.Test.YtaidcapflcobiaaM4
/- What Select answers, as its callers see it; conditions: all fits into memory. -/
namespace Go.Proofs.Ytaidcapflcobiaa
open Go.RowKit

/-- Numbers in a list that lies there. -/
def IgO (w : World) (a : Option Addr) (e : List Int) : Prop := ∀ i (h : i < e.length), ∃ b, a = some ⟨b, 0, none⟩ ∧ b < w.heap.size ∧ w.cell? ⟨b, i, none⟩ = some (.int .i64 e[i])
theorem IgO.new {w w' : World} {a : Option Addr} {e : List Int} (h : IgO w a e) (t : Touch (fun _ => False) w w') : IgO w' a e := by
  intro i hi
  obtain ⟨b, ha, hb, hc⟩ := h i hi
  exact ⟨b, ha, Nat.lt_of_lt_of_le hb t.size, (t.cell (p := ⟨b, i, none⟩) hb id).trans hc⟩
theorem own_ig {w : World} {base n : Nat} {v : Value} {e : List Int} (h : w.ownsRow base 3 1 v n (encI e)) (hn : n = e.length) : ∃ a c, v = .slice a e.length c ∧ IgO w a e := by
  subst hn
  rcases h.2 with ⟨rfl, h0⟩ | ⟨g, cap, cur, rfl, hg, hh, rest⟩
  · exact ⟨none, 0, by rw [h0], fun i hi => by omega⟩
  · refine ⟨_, cap, rfl, fun i hi => ⟨g, rfl, lt_of_block hh, ?_⟩⟩
    have := h.cells (g := g) rfl i (.int .i64 e[i]) (by simp [encI, hi])
    rwa [add_g] at this

/-- Lines in a list that lies there: their numbers, spans, and what begins in them. -/
def Lg (w : World) (a : Option Addr) (l : List R2) (B : Nat → List Int) (s : List (Fin l.length)) : Prop :=
  ∀ j (h : j < s.length), ∃ b ak ck, a = some ⟨b, 0, none⟩ ∧ b < w.heap.size ∧ w.cell? ⟨b, j * 4, none⟩ = some (.int .i64 ((s[j].1 : Int) + 1)) ∧ w.cell? ⟨b, j * 4 + 1, none⟩ = some (.int .i64 (l[s[j].1]).1) ∧ w.cell? ⟨b, j * 4 + 2, none⟩ = some (.int .i64 (l[s[j].1]).2) ∧ w.cell? ⟨b, j * 4 + 3, none⟩ = some (.slice ak (B s[j].1).length ck) ∧ IgO w ak (B s[j].1)
theorem Lg.new {w w' : World} {a : Option Addr} {l : List R2} {B : Nat → List Int} {s : List (Fin l.length)} (h : Lg w a l B s) (t : Touch (fun _ => False) w w') : Lg w' a l B s := by
  intro j hj
  obtain ⟨b, ak, ck, ha, hb, h0, h1, h2, h3, h4⟩ := h j hj
  exact ⟨b, ak, ck, ha, Nat.lt_of_lt_of_le hb t.size, (t.cell (p := ⟨b, _, none⟩) hb id).trans h0, (t.cell (p := ⟨b, _, none⟩) hb id).trans h1, (t.cell (p := ⟨b, _, none⟩) hb id).trans h2, (t.cell (p := ⟨b, _, none⟩) hb id).trans h3, h4.new t⟩
theorem flat_get (l : List R2) (vs : Nat → Value) : ∀ (s : List (Fin l.length)) (j r : Nat) (h : j < s.length) (_ : r < 4), (flatLn l vs s)[j * 4 + r]? = (encLn l vs s[j])[r]?
  | x :: s, 0, r, _, hr => by
    show (encLn l vs x ++ flatLn l vs s)[0 * 4 + r]? = _
    rw [Nat.zero_mul, Nat.zero_add, List.getElem?_append_left (by simpa [encLn] using hr)]
    rfl
  | x :: s, j + 1, r, h, hr => by
    show (encLn l vs x ++ flatLn l vs s)[(j + 1) * 4 + r]? = _
    rw [List.getElem?_append_right (by simp [encLn]; omega), show (encLn l vs x).length = 4 from rfl, show (j + 1) * 4 + r - 4 = j * 4 + r by omega]
    exact flat_get l vs s j r (by simpa using h) hr
theorem own_lg {w : World} {base tb bg ch : Nat} {W0 : World} {v : Value} {l : List R2} {vs : Nat → Value} {B : Nat → List Int} {C : Nat → Int} {s : List (Fin l.length)} (h : w.ownsRow base 41 4 v s.length (flatLn l vs s)) (ly : Ly W0 w tb bg ch l.length vs B C) : ∃ a c, v = .slice a s.length c ∧ Lg w a l B s := by
  rcases h.2 with ⟨rfl, h0⟩ | ⟨g, cap, cur, rfl, hg, hh, rest⟩
  · exact ⟨none, 0, by rw [h0], fun j hj => by omega⟩
  · refine ⟨_, cap, rfl, fun j hj => ?_⟩
    obtain ⟨ak, ck, hv, hig⟩ := own_ig (ly.own s[j].1 s[j].2) rfl
    have c0 := h.cells (g := g) rfl (j * 4 + 0) _ (flat_get l vs s j 0 hj (by omega))
    have c1 := h.cells (g := g) rfl (j * 4 + 1) _ (flat_get l vs s j 1 hj (by omega))
    have c2 := h.cells (g := g) rfl (j * 4 + 2) _ (flat_get l vs s j 2 hj (by omega))
    have c3 := h.cells (g := g) rfl (j * 4 + 3) _ (flat_get l vs s j 3 hj (by omega))
    rw [add_g] at c0 c1 c2 c3
    rw [Nat.add_zero] at c0
    rw [hv] at c3
    exact ⟨g, ak, ck, rfl, lt_of_block hh, c0, c1, c2, c3, hig⟩

/-! ### Which lines are chosen -/
def hitB (l fs : List R2) (i : Nat) : Bool := fs.any fun x => okS l x && (decide (fstL l x ≤ i) && decide ((i : Int) ≤ lstL l x))
def cvN (l : List R2) (k : Nat) (x : R2) : Int := if okS l x = true ∧ fstL l x < k ∧ (k : Int) ≤ lstL l x + 1 then 1 else 0
theorem cvN_step (l : List R2) (k : Nat) (x : R2) : cvN l (k + 1) x = cvN l k x + dl l x k := by
  unfold cvN dl
  by_cases h : okS l x = true
  · have h2 := of_decide_eq_true h
    rw [if_pos h]
    simp only [h, true_and]
    by_cases h3 : fstL l x < ((k + 1 : Nat) : Int) ∧ ((k + 1 : Nat) : Int) ≤ lstL l x + 1
    · rw [if_pos h3]
      by_cases h4 : fstL l x = k
      · rw [if_neg (by omega), if_pos h4, if_neg (by omega)]; omega
      · rw [if_pos (by omega), if_neg h4, if_neg (by omega)]; omega
    · rw [if_neg h3]
      by_cases h4 : lstL l x + 1 = k
      · rw [if_pos (by omega), if_neg (by omega), if_pos h4]; omega
      · rw [if_neg (by omega), if_neg (by omega), if_neg h4]; omega
  · simp [h]
def covN (l : List R2) (fs : List R2) (k : Nat) : Int := (fs.map (cvN l k)).sum
theorem covN_step (l : List R2) (k : Nat) : ∀ fs : List R2, covN l fs (k + 1) = covN l fs k + chgF l fs k
  | [] => rfl
  | x :: fs => by
    have ih := covN_step l k fs
    have hx := cvN_step l k x
    unfold covN chgF at *
    simp only [List.map_cons, List.sum_cons]
    omega
theorem covN_zero (l : List R2) : ∀ fs : List R2, covN l fs 0 = 0
  | [] => rfl
  | x :: fs => by
    have ih := covN_zero l fs
    unfold covN at *
    simp only [List.map_cons, List.sum_cons]
    have : cvN l 0 x = 0 := by
      unfold cvN
      by_cases h : okS l x = true
      · have h2 := of_decide_eq_true h
        rw [if_neg (by omega)]
      · rw [if_neg (fun e => h e.1)]
    omega
theorem covN_pos (l : List R2) (k : Nat) : ∀ fs : List R2, 0 ≤ covN l fs (k + 1) ∧ (0 < covN l fs (k + 1) ↔ hitB l fs k = true)
  | [] => by simp [covN, hitB]
  | x :: fs => by
    have ih := covN_pos l k fs
    have e : covN l (x :: fs) (k + 1) = cvN l (k + 1) x + covN l fs (k + 1) := by simp [covN]
    have e2 : hitB l (x :: fs) k = ((okS l x && (decide (fstL l x ≤ k) && decide ((k : Int) ≤ lstL l x))) || hitB l fs k) := by simp [hitB]
    rw [e, e2, Bool.or_eq_true]
    by_cases h : (okS l x && (decide (fstL l x ≤ k) && decide ((k : Int) ≤ lstL l x))) = true
    · have h1 : cvN l (k + 1) x = 1 := by
        simp only [Bool.and_eq_true, decide_eq_true_eq] at h
        unfold cvN
        rw [if_pos ⟨h.1, by omega, by omega⟩]
      rw [h1]
      exact ⟨by omega, fun _ => .inl h, fun _ => by omega⟩
    · have h1 : cvN l (k + 1) x = 0 := by
        unfold cvN
        rw [if_neg (fun e => h (by simp only [Bool.and_eq_true, decide_eq_true_eq]; exact ⟨e.1, by omega, by omega⟩))]
      rw [h1]
      refine ⟨by omega, fun hh => .inr (ih.2.1 (by omega)), fun hh => ?_⟩
      rcases hh with hh | hh
      · exact absurd hh h
      · have := ih.2.2 hh
        omega
/-- The lines that are chosen of the first k. -/
def selU (l fs : List R2) (inv : Bool) (k : Nat) : List (Fin l.length) := (up l.length k).filter fun i => hitB l fs i.1 != inv
theorem selU_step (l fs : List R2) (inv : Bool) {k : Nat} (h : k < l.length) : selU l fs inv (k + 1) = selU l fs inv k ++ if (hitB l fs k != inv) = true then [⟨k, h⟩] else [] := by
  unfold selU
  rw [up_succ h, List.filter_append]
  congr 1
  by_cases hh : (hitB l fs k != inv) = true
  · rw [if_pos hh, List.filter_cons_of_pos (p := fun i : Fin l.length => hitB l fs i.1 != inv) hh]
    rfl
  · rw [if_neg hh, List.filter_cons_of_neg (p := fun i : Fin l.length => hitB l fs i.1 != inv) hh]
    rfl
theorem stF_up (l fs : List R2) (inv : Bool) : ∀ k, k ≤ l.length → stF l fs inv (up l.length k) = (covN l fs k, selU l fs inv k)
  | 0, _ => by
    rw [covN_zero]
    rfl
  | k + 1, h => by
    rw [up_succ (by omega), stF_snoc, stF_up l fs inv k (by omega), selU_step l fs inv (by omega), covN_step]
    unfold stStep
    dsimp only
    have e : decide (0 < covN l fs k + chgF l fs k) = hitB l fs k := by
      rw [← covN_step, Bool.eq_iff_iff, decide_eq_true_eq]
      exact (covN_pos l k fs).2
    rw [e]
def sel (l fs : List R2) (inv : Bool) : List (Fin l.length) := selU l fs inv l.length
theorem stF_sel (l fs : List R2) (inv : Bool) : (stF l fs inv (List.finRange l.length)).2 = sel l fs inv := by
  rw [← up_all, stF_up l fs inv _ (Nat.le_refl _)]
  rfl

theorem select_any (d : ByteArray) (hd : d.size ≤ 2097152) (a2 : Option Addr) (c2 : Nat) (fs : List R2) (inv : Bool) (w : World) (hf : Rg w a2 fs) (hfb : fs.length ≤ 2097152) (hin : ∀ x ∈ fs, 0 ≤ x.2 ∧ x.2 ≤ 4194304) :
    Calls Try.prog 13 #[.string d, .slice a2 fs.length c2, .bool inv] w fun e w' => ∃ a c, e = .returned (.slice a (sel (lns d) fs inv).length c) ∧ Lg w' a (lns d) (begF (lns d) fs) (sel (lns d) fs inv) ∧ Touch (fun _ => False) w w' := by
  refine (callsIn_wide.1 (select_in d hd a2 c2 fs inv w hf hfb hin)).mono ?_
  rintro e w' ⟨v, tb, bg, ch, vs, rfl, hrow, hly⟩
  rw [stF_sel] at hrow
  obtain ⟨a, c, rfl, hlg⟩ := own_lg hrow hly
  exact ⟨a, c, rfl, hlg, hly.touch⟩
end Go.Proofs.Ytaidcapflcobiaa

/- speaks of the laws on lines; no condition. -/
namespace Go.Proofs.Ytaidcapflcobiaa
open Go.RowKit

def dAb : ByteArray := ⟨#[97, 98, 10, 99]⟩
theorem lns_ab : lns dAb = [(0, 2), (3, 4)] := by decide
theorem sel_ab : (sel (lns dAb) [(1, 4)] false).map Fin.val = [0, 1] := by decide
theorem beg_ab : (begF (lns dAb) [(1, 4)] 0).length = 1 := by decide

theorem at_two : ∀ (l : List R2) (_ : l = [(0, 2), (3, 4)]) (i : Nat) (_ : i = 1) (h : i < l.length), (l[i]).2 = 4 := by
  rintro _ rfl _ rfl _
  rfl
theorem fin_two {n : Nat} : ∀ (s : List (Fin n)) (_ : s.map Fin.val = [0, 1]), ∃ (h : s.length = 2), (s[0]'(by omega)).1 = 0 ∧ (s[1]'(by omega)).1 = 1
  | [], h => by simp at h
  | [_], h => by simp at h
  | [a, b], h => by simp at h; exact ⟨rfl, h.1, h.2⟩
  | _ :: _ :: _ :: _, h => by simp at h
theorem speaks_cells {w : World} {a : Option Addr} (h : Lg w a (lns dAb) (begF (lns dAb) [(1, 4)]) (sel (lns dAb) [(1, 4)] false)) : ∃ b ak ck, a = some ⟨b, 0, none⟩ ∧ w.cell? ⟨b, 3, none⟩ = some (.slice ak 1 ck) ∧ w.cell? ⟨b, 6, none⟩ = some (.int .i64 4) ∧ (sel (lns dAb) [(1, 4)] false).length = 2 := by
  obtain ⟨hl, s0, s1⟩ := fin_two _ sel_ab
  obtain ⟨b, ak, ck, rfl, hb, _, _, _, e3, _⟩ := h 0 (by omega)
  obtain ⟨b', ak', ck', hbb, hb', _, _, f2, _, _⟩ := h 1 (by omega)
  simp only [Option.some.injEq, Addr.mk.injEq, and_true] at hbb
  subst hbb
  rw [at_two _ lns_ab _ s1] at f2
  refine ⟨b, ak, ck, rfl, ?_, f2, hl⟩
  rw [s0, beg_ab] at e3
  exact e3

set_option maxRecDepth 100000 in
set_option maxHeartbeats 4000000 in
theorem speaks_yes (w : World) : Calls Try.prog 8 #[] w fun e w' => e = .returned (.bool true) ∧ Touch (fun _ => False) w w' := by
  have T0 := hid ((Touch.refl (fun _ => False) w).alloc (.cells #[.int .i64 1, .int .i64 4] 27))
  have RG := hid (show Rg (w.alloc (.cells #[.int .i64 1, .int .i64 4] 27)) (some ⟨w.heap.size, 0, none⟩) [(1, 4)] from by
    have hb := two_new (w := w) (.int .i64 1) (.int .i64 4) 27
    refine .inr ⟨w.heap.size, 0, rfl, by simp, fun i hi => ?_⟩
    simp only [List.length_cons, List.length_nil] at hi
    match i, hi with
    | 0, _ => exact ⟨by unfold World.cell?; rw [hb]; rfl, by unfold World.cell?; rw [hb]; rfl⟩)
  have K := hid (select_any dAb (by decide) (some ⟨w.heap.size, 0, none⟩) 1 [(1, 4)] false _ RG.out (by decide) (by intro x hx; simp at hx; subst hx; decide))
  clear RG
  go_enter Try.func8, Try.ntmps8
  go_wp2_with fail
  refine K.out.mono ?_
  rintro e w1 ⟨a, c, rfl, hlg, t1⟩
  obtain ⟨b, ak, ck, rfl, e3, f2, hlen⟩ := speaks_cells hlg
  have TT := hid (T0.out.trans t1 (fun _ _ e => e))
  rw [hlen]
  clear hlg t1 hlen K T0
  go_wp2
  go_ret
  exact ⟨rfl, TT.out⟩
end Go.Proofs.Ytaidcapflcobiaa

/- LinesSplit's walk; condition: the text fits into memory. -/
namespace Go.Proofs.Ytaidcapflcobiaa
open Go.RowKit

/-- Where the next line begins. -/
def outGo (l : List R2) (z : Int) : Int := l.foldl (fun _ x => x.2 + 1) z
theorem outGo_snoc (l : List R2) (x : R2) (z : Int) : outGo (l ++ [x]) z = x.2 + 1 := by simp [outGo]
theorem chn_at : ∀ (l : List R2) (fr : Nat), Chn fr l → ∀ k (h : k < l.length), (l[k]).1 = outGo (l.take k) fr
  | [], _, _, k, h => by simp at h
  | x :: l, fr, ⟨h1, te, h2, h3, h4⟩, 0, _ => h1
  | x :: l, fr, ⟨h1, te, h2, h3, h4⟩, k + 1, h => by
    have := chn_at l (te + 1) h4 k (by simpa using h)
    rw [List.getElem_cons_succ, this, List.take_succ_cons]
    unfold outGo
    rw [List.foldl_cons, h2]
    rfl
theorem out_all : ∀ (cs : List UInt8) (fr cur : Nat), fr ≤ cur → outGo (lnsGo cs fr cur) fr = (cur + cs.length : Nat) ∨ outGo (lnsGo cs fr cur) fr = (cur + cs.length : Nat) + 1
  | [], fr, cur, h => by
    rw [lnsGo]
    split
    · right; rfl
    · left
      show (fr : Int) = _
      simp only [List.length_nil]
      omega
  | c :: cs, fr, cur, h => by
    rw [lnsGo, List.length_cons, show cur + (cs.length + 1) = cur + 1 + cs.length by omega]
    split
    · have := out_all cs (cur + 1) (cur + 1) (Nat.le_refl _)
      exact this
    · exact out_all cs fr (cur + 1) (by omega)
theorem lns_out (d : ByteArray) : outGo (lns d) 0 = d.size ∨ outGo (lns d) 0 = (d.size : Int) + 1 := by
  have := out_all d.data.toList 0 0 (Nat.le_refl _)
  rw [Nat.zero_add, Array.length_toList] at this
  exact this
theorem lns_at (d : ByteArray) (k : Nat) (h : k < (lns d).length) : ((lns d)[k]).1 = outGo ((lns d).take k) 0 := chn_at _ 0 (lnsGo_chn _ 0 0 (Nat.le_refl _)) k h

set_option maxRecDepth 100000 in
set_option maxHeartbeats 4000000 in
theorem linesSplit_walk (d : ByteArray) (p : Int) (w : World) (hd : d.size ≤ 1048576) (_hp : (Lit.int .i64 p).wf = true) :
    Calls Try.prog 4 #[.string d, .int .i64 p] w fun e w' => e = .returned (.bool true) ∧ Below w.heap.size w w' := by
  have hln := lns_len d
  go_enter Try.func4, Try.ntmps4
  go_wp2_with fail
  refine (speaks_yes w).mono ?_
  rintro e w1 ⟨rfl, t1⟩
  have T1 := hid t1
  clear t1
  have K := hid (split_any d (by omega) w1)
  go_wp2_with fail
  refine K.out.mono ?_
  rintro e w2 ⟨a, c, rfl, hr, _, _, t2⟩
  have T2 := hid (T1.out.trans t2 (fun _ _ e => e))
  have R2 := hid hr
  clear K t2 hr T1
  have K := hid (rsplit_any d w2 (by omega))
  go_wp2_with fail
  refine K.out.mono ?_
  rintro e w3 ⟨v, rfl, ow⟩
  have T3 := hid (T2.out.trans ow.touch (fun _ _ e => e))
  replace R2 := hid (R2.out.new ow.touch)
  obtain ⟨a3, c3, hv, hr3⟩ := ow.rg
  subst hv
  have R3 := hid hr3
  clear K ow hr3 T2
  have K := hid (at_any a c (lns d) p w3 R2.out (lns_rise d) (by omega))
  go_wp2_with fail
  refine K.out.mono ?_
  rintro e w4 ⟨rfl, t4⟩
  replace T3 := hid (T3.out.trans t4 (fun _ _ e => e))
  replace R2 := hid (R2.out.new t4)
  replace R3 := hid (R3.out.new t4)
  clear K t4
  have K := hid (rat_any a3 c3 (lns d) p w4 R3.out (lns_rise d) (by omega))
  go_wp2_with fail
  refine K.out.mono ?_
  rintro e w5 ⟨rfl, rfl⟩
  clear K
  go_wp2_with fail
  go_loopg [7, 8] (lns d).length (fun gk o i wr => ∃ k : Nat, k + gk = (lns d).length ∧ i = .int .i64 (k : Nat) ∧ o = .int .i64 (outGo ((lns d).take k) 0) ∧ Touch (fun _ => False) w4 wr)
  case atStart => exact ⟨0, by omega, rfl, rfl, Touch.refl _ _⟩
  case round =>
    obtain ⟨k, hk, rfl, rfl, ht⟩ := hrel
    have TR := hid ht
    clear ht
    by_cases hlt : k < (lns d).length
    · obtain ⟨b, o, ha, hbl, hcell⟩ : ∃ b o, a = some ⟨b, o, none⟩ ∧ b < wr.heap.size ∧ ∀ i (h : i < (lns d).length), wr.cell? ⟨b, o + i * 2, none⟩ = some (.int .i64 ((lns d)[i]).1) ∧ wr.cell? ⟨b, o + i * 2 + 1, none⟩ = some (.int .i64 ((lns d)[i]).2) := by
        rcases R2.out.new TR.out with h | h
        · rw [h] at hlt; simp at hlt
        · exact h
      subst ha
      obtain ⟨b3, o3, ha3, hbl3, hcell3⟩ : ∃ b o, a3 = some ⟨b, o, none⟩ ∧ b < wr.heap.size ∧ ∀ i (h : i < (lns d).length), wr.cell? ⟨b, o + i * 2, none⟩ = some (.int .i64 ((lns d)[i]).1) ∧ wr.cell? ⟨b, o + i * 2 + 1, none⟩ = some (.int .i64 ((lns d)[i]).2) := by
        rcases R3.out.new TR.out with h | h
        · rw [h] at hlt; simp at hlt
        · exact h
      subst ha3
      obtain ⟨d0, d1⟩ := hcell k hlt
      obtain ⟨f0, f1⟩ := hcell3 k hlt
      have HT := hid (show outGo ((lns d).take (k + 1)) 0 = ((lns d)[k]).2 + 1 from by rw [List.take_succ_eq_append_getElem hlt, outGo_snoc])
      have hat := lns_at d k hlt
      rw [← hat]
      have hbd := lns_in d (lns d)[k] (List.getElem_mem _)
      obtain ⟨r, hr⟩ : ∃ r, r = (lns d)[k] := ⟨_, rfl⟩
      rw [← hr] at d0 d1 f0 f1 HT hbd ⊢
      obtain ⟨y, z⟩ := r
      dsimp only at d0 d1 f0 f1 HT hbd ⊢
      have hkI : (k : Int) < ((lns d).length : Int) := by omega
      clear hcell hcell3 hr hat
      go_wp2_with fail
      go_quiet (fail)
      go_wp2
      go_roundg (gk - 1)
      case measure => omega
      case rel => exact ⟨k + 1, by omega, by go_num, by rw [HT.out], TR.out.drewN _⟩
    · obtain rfl : k = (lns d).length := by omega
      rw [List.take_length]
      rcases lns_out d with h | h
      · rw [h]
        go_wp2
        go_ret
        exact ⟨rfl, (T3.out.trans TR.out (fun _ _ e => e)).below _ (Nat.le_refl _) (fun _ e => e.elim)⟩
      · rw [h]
        go_wp2
        all_goals
          go_ret
          exact ⟨rfl, (T3.out.trans TR.out (fun _ _ e => e)).below _ (Nat.le_refl _) (fun _ e => e.elim)⟩
end Go.Proofs.Ytaidcapflcobiaa

/- LinesPlaces' walk, and the counts of lines and newlines; condition: the text fits into memory. -/
namespace Go.Proofs.Ytaidcapflcobiaa
open Go.RowKit

theorem cnt_cons (x : R2) (l : List R2) (p : Int) : cnt (x :: l) p = cnt l p + if x.1 ≤ p then 1 else 0 := by
  unfold cnt
  rw [List.countP_cons]
  simp
theorem cnt_none (l : List R2) (p : Int) (h : ∀ x ∈ l, p < x.1) : cnt l p = 0 := by
  unfold cnt
  rw [List.countP_eq_zero]
  intro x hx
  have := h x hx
  simp
  omega
theorem cnt_every (l : List R2) (p : Int) (h : ∀ x ∈ l, x.1 ≤ p) : cnt l p = l.length := by
  unfold cnt
  rw [List.countP_eq_length]
  intro x hx
  have := h x hx
  simpa using this
theorem cnt_open (cs : List UInt8) (fr cur p : Nat) (h1 : fr ≤ p) (h2 : p < cur) : cnt (lnsGo cs fr cur) p = 1 := by
  have hg := endGo_ge cs cur
  rw [lnsGo_step cs fr cur (by omega) (by omega), cnt_cons, if_pos (by dsimp only; omega), cnt_none]
  intro x hx
  have := (lnsGo_in _ _ _ (Nat.le_refl _) x hx).1
  omega
/-- How many newlines there are. -/
def nlc (cs : List UInt8) : Nat := cs.countP fun c => decide (c = 10)
theorem nlc_cons (c : UInt8) (cs : List UInt8) : nlc (c :: cs) = nlc cs + if c = 10 then 1 else 0 := by
  unfold nlc
  rw [List.countP_cons]
  simp
theorem cnt_go : ∀ (cs : List UInt8) (fr cur m : Nat), fr ≤ cur → m < cs.length → cnt (lnsGo cs fr cur) ((cur + m : Nat) : Int) = nlc (cs.take m) + 1
  | [], _, _, _, _, h => by simp at h
  | c :: cs, fr, cur, m, h0, h => by
    rw [lnsGo]
    by_cases hc : c = 10
    · rw [if_pos hc, cnt_cons, if_pos (by dsimp only; omega)]
      cases m with
      | zero =>
        rw [cnt_none]
        · rfl
        · intro x hx
          have := (lnsGo_in _ _ _ (Nat.le_refl _) x hx).1
          omega
      | succ m =>
        have := cnt_go cs (cur + 1) (cur + 1) m (Nat.le_refl _) (by simpa using h)
        rw [show cur + (m + 1) = cur + 1 + m by omega, this, List.take_succ_cons, nlc_cons, if_pos hc]
    · rw [if_neg hc]
      cases m with
      | zero => exact cnt_open cs fr (cur + 1) cur h0 (by omega)
      | succ m =>
        have := cnt_go cs fr (cur + 1) m (by omega) (by simpa using h)
        rw [show cur + (m + 1) = cur + 1 + m by omega, this, List.take_succ_cons, nlc_cons, if_neg hc]
theorem cnt_at (d : ByteArray) (k : Nat) (h : k < d.size) : cnt (lns d) (k : Nat) = nlc (d.data.toList.take k) + 1 := by
  have := cnt_go d.data.toList 0 0 k (Nat.le_refl _) (by simpa using h)
  rw [Nat.zero_add] at this
  exact this
theorem nlc_step (d : ByteArray) (k : Nat) (h : k < d.size) : nlc (d.data.toList.take (k + 1)) = nlc (d.data.toList.take k) + if d[k] = 10 then 1 else 0 := by
  rw [List.take_succ_eq_append_getElem (by simpa using h)]
  unfold nlc
  rw [List.countP_append]
  have e : d.data.toList[k]'(by simpa using h) = d[k] := rfl
  rw [e]
  simp
theorem ten_iff (x : UInt8) : x = 10 ↔ (x.toNat : Int) = 10 := by
  constructor
  · rintro rfl; rfl
  · intro e
    exact UInt8.toNat_inj.1 (by rw [show (10 : UInt8).toNat = 10 from rfl]; omega)
theorem nlc_le (cs : List UInt8) : nlc cs ≤ cs.length := List.countP_le_length

set_option maxRecDepth 100000 in
set_option maxHeartbeats 4000000 in
theorem linesPlaces_walk (d : ByteArray) (w : World) (hd : d.size ≤ 140737488351232) :
    Calls Try.prog 5 #[.string d] w fun e w' => e = .returned (.bool true) ∧ Below w.heap.size w w' := by
  go_enter Try.func5, Try.ntmps5
  go_wp2_with fail
  refine (speaks_yes w).mono ?_
  rintro e w1 ⟨rfl, t1⟩
  have T1 := hid t1
  clear t1
  by_cases hbig : 5000 < d.size
  · go_wp2
    go_ret
    exact ⟨rfl, T1.out.below _ (Nat.le_refl _) (fun _ e => e.elim)⟩
  · have K := hid (split_any d (by omega) w1)
    go_wp2_with fail
    refine K.out.mono ?_
    rintro e w2 ⟨a, c, rfl, hr, _, _, t2⟩
    have T2 := hid (T1.out.trans t2 (fun _ _ e => e))
    have R2 := hid hr
    clear K t2 hr
    have hln := lns_len d
    have KA := hid (fun (p : Int) (w' : World) (t : Touch (fun _ => False) w2 w') => at_any a c (lns d) p w' (R2.out.new t) (lns_rise d) (by omega))
    go_wp2_with fail
    go_loopg [4, 5] d.size (fun gk n i wr => ∃ k : Nat, k + gk = d.size ∧ i = .int .i64 (k : Nat) ∧ n = .int .i64 (nlc (d.data.toList.take k) : Nat) ∧ Touch (fun _ => False) w2 wr)
    case atStart => exact ⟨0, by omega, rfl, rfl, Touch.refl _ _⟩
    case round =>
      obtain ⟨k, hk, rfl, rfl, ht⟩ := hrel
      have TR := hid ht
      clear ht
      by_cases hlt : k < d.size
      · have hca := cnt_at d k hlt
        have HST := hid (nlc_step d k hlt)
        have hnl := nlc_le (d.data.toList.take k)
        rw [List.length_take] at hnl
        obtain ⟨m, hm⟩ : ∃ m, m = nlc (d.data.toList.take k) := ⟨_, rfl⟩
        rw [← hm] at hca HST hnl ⊢
        have HCA := hid hca
        clear hca hm
        go_wp2_with fail
        refine (KA.out (k : Nat) wr TR.out).mono ?_
        rintro e w3 ⟨rfl, t3⟩
        rw [HCA.out]
        have T3 := hid (TR.out.trans t3 (fun _ _ e => e))
        clear t3
        rw [show (((m + 1 : Nat) : Int) - 1) = (m : Int) by omega]
        by_cases h10 : (d[k]).toNat = 10
        · have hx : ((d[k]).toNat : Int) = 10 := by omega
          have HN := hid (show nlc (d.data.toList.take (k + 1)) = m + 1 from by rw [HST.out, if_pos ((ten_iff _).2 hx)])
          go_wp2
          go_roundg (gk - 1)
          case measure => omega
          case rel => exact ⟨k + 1, by omega, by go_num, by rw [HN.out]; go_num, T3.out⟩
        · have hx : ¬ ((d[k]).toNat : Int) = 10 := by omega
          have HN := hid (show nlc (d.data.toList.take (k + 1)) = m from by rw [HST.out, if_neg (fun e => hx ((ten_iff _).1 e))]; rfl)
          go_wp2
          go_roundg (gk - 1)
          case measure => omega
          case rel => exact ⟨k + 1, by omega, by go_num, by rw [HN.out], T3.out⟩
      · obtain rfl : k = d.size := by omega
        have HE := hid (cnt_every (lns d) (d.size : Nat) (fun x hx => by have := (lns_in d x hx).2.2.2; omega))
        have HM := hid (cnt_none (lns d) (-1) (fun x hx => by have := (lns_in d x hx).1; omega))
        go_wp2_with fail
        refine (KA.out (d.size : Nat) wr TR.out).mono ?_
        rintro e w3 ⟨rfl, t3⟩
        rw [HE.out]
        have T3 := hid (TR.out.trans t3 (fun _ _ e => e))
        clear t3
        go_wp2_with fail
        refine (KA.out (-1) w3 T3.out).mono ?_
        rintro e w4 ⟨rfl, t4⟩
        rw [HM.out]
        have T4 := hid (T3.out.trans t4 (fun _ _ e => e))
        clear t4
        go_wp2
        go_ret
        exact ⟨rfl, (T2.out.trans T4.out (fun _ _ e => e)).below _ (Nat.le_refl _) (fun _ e => e.elim)⟩
end Go.Proofs.Ytaidcapflcobiaa
