/- Texts of this proof, one behind the other: what each says stands ahead of it. -/
import Derived.Test.YthengfclijclmaaM23
import Derived.Deep.RegionLaw
/- learn; conditions: those told. -/
namespace Go.Proofs.Ythengfclijclmaa
open Go.RowKit
open Go.Lib

open Go.Maps
theorem step_append_ownQ {P : Program} (w : World) {ops : Array Oper} {o : Oper} {a : Act} {K : Act → World → Prop} {Q : Exit → Act → World → Prop} {E : Prop} (hgd : o.guard = none) (s x : Operand) (t : TypeId)
    (ho : o.op = .call { callee := .builtin .append, args := #[s, x], argTypes := #[t, t] })
    (base : Nat) (e : TypeId) (i : TypeInfo) (z : Value) (size bytes : Nat) (ht : P.underlying t = some (.slice e)) (hi : P.info? e = some i) (hz : i.zero = some z)
    (hsize : i.size = size) (hby : i.bytes = bytes) (hzs : z.cells.size = size) (hsz : 0 < size)
    (v : Value) (n : Nat) (xs : List Value) (hs : a.eval s = v) (hown : w.ownsRow base e size v n xs)
    (ad : Addr) (m c : Nat) (news : List Value) (hx : a.eval x = .slice (some ad) m c) (hl : news.length = m * size) (hnews : ∀ j u, news[j]? = some u → w.cell? (ad.add j) = some u) (h1 : ∀ u ∈ news, u.oneCell' = true)
    (h63 : n + m ≤ maxLen) (hbytes : (n + m) * bytes ≤ 140737488355328) (hbase : base ≤ w.heap.size) (H : Nat) (hH : w.heap.size = H)
    (h : ∀ v' w', w'.ownsRow base e size v' (n + m) (xs ++ news) → w.grownBy w' v.ownBlock → (v'.ownBlock = v.ownBlock ∨ v'.ownBlock = some H) → K (a.put o.dst v') w') :
    if Region.wanted o (yielded ops a.tmps) = true then Oper.wp P o a w K Q else E := by
  have hw : Region.wanted o (yielded ops a.tmps) = true := by simp [Region.wanted, hgd]
  rw [if_pos hw]
  obtain ⟨v', w', hr, h2, h3, h4, h5⟩ := run_append_own_at (P := P) w base t o.type e i z size bytes ht hi hz hsize hby hzs hsz v n xs hown ad m c news hl hnews h1 h63 hbytes hbase
  unfold Oper.wp execOp
  simp only [ho, resolve, invoke, builtin, Sem.run_bind, Sem.run_pure, Result.andThen_ok, List.map_toArray, List.map_cons, List.map_nil, hs, hx, hr]
  exact h v' w' h2 h3 (by rw [← hH]; exact h5)

structure PStep (w w' : World) (pb mb : Nat) (d : ByteArray) (f L : Nat) (vb vb' : Value) : Prop where
  past : Past w' pb mb d f L vb'
  touch : Touch (fun k => k = pb ∨ k = mb ∨ vb.ownBlock = some k) w w'
  own : vb'.ownBlock = vb.ownBlock ∨ ∃ g, vb'.ownBlock = some g ∧ w.heap.size ≤ g
theorem PStep.refl {w : World} {pb mb : Nat} {d : ByteArray} {f L : Nat} {vb : Value} (h : Past w pb mb d f L vb) : PStep w w pb mb d f L vb vb := ⟨h, Touch.refl _ _, .inl rfl⟩
theorem PStep.trans {a w c : World} {pb mb : Nat} {d : ByteArray} {f L L' : Nat} {v v1 v2 : Value} (h : PStep a w pb mb d f L v v1) (k : PStep w c pb mb d f L' v1 v2) : PStep a c pb mb d f L' v v2 := by
  refine ⟨k.past, h.touch.trans k.touch (fun i hi e => ?_), ?_⟩
  · rcases e with e | e | e
    · exact .inl e
    · exact .inr (.inl e)
    · rcases h.own with o | ⟨g, o, hg⟩
      · exact .inr (.inr (by rw [← o]; exact e))
      · rw [o] at e
        simp at e
        omega
  · rcases k.own with o | ⟨g, o, hg⟩
    · rw [o]
      exact h.own
    · exact .inr ⟨g, o, Nat.le_trans h.touch.size hg⟩
theorem PStep.still {w w' c : World} {pb mb : Nat} {d : ByteArray} {f L : Nat} {v v1 : Value} (h : PStep w w' pb mb d f L v v1) (t : Touch (fun _ => False) w' c) : PStep w c pb mb d f L v v1 :=
  ⟨h.past.kept t, h.touch.trans t (fun _ _ e => e.elim), h.own⟩
/-- What lies there when the list is longer, and the map isn't yet. -/
structure MidP (w w' : World) (pb mb : Nat) (d : ByteArray) (f c : Nat) (vb vb' : Value) : Prop where
  blk : w'.heap[pb]? = some (.cells #[.string d, .int .i64 (f : Nat), .map (some mb), vb'] 98 (0, 0))
  map : ∃ D : DataW Unit, w'.ownsMap Try.prog 3 (plainElem Try.prog 3) mb (c - f) D ∧ IsMap D ∧ ∀ key : Nat, D.atKey (.int .i64 (key : Nat)) (.lit (.int .i64 0)) = .lit (.int .i64 (lastP d f c key + 1))
  row : w'.ownsRow 0 3 1 vb' (c + 1 - f) (befV d f (c + 1 - f))
  touch : Touch (fun k => k = pb ∨ k = mb ∨ vb.ownBlock = some k) w w'
  own : vb'.ownBlock = vb.ownBlock ∨ ∃ g, vb'.ownBlock = some g ∧ w.heap.size ≤ g
theorem own_map_ne {w : World} {mb n : Nat} {D : DataW Unit} {v : Value} {k : Nat} {xs : List Value} (h : w.ownsMap Try.prog 3 (plainElem Try.prog 3) mb n D) (hr : w.ownsRow 0 3 1 v k xs) : v.ownBlock ≠ some mb := fun e => by
  obtain ⟨es, clock, hb, _⟩ := h
  rcases hr.2 with ⟨rfl, _⟩ | ⟨g, cap, cur, rfl, _, hh, _⟩
  · simp [Value.ownBlock] at e
  · simp [Value.ownBlock] at e
    subst e
    rw [hb] at hh
    simp at hh
theorem blk_map_ne {w : World} {mb n pb : Nat} {D : DataW Unit} {cs : Array Value} {ty : TypeId} (h : w.ownsMap Try.prog 3 (plainElem Try.prog 3) mb n D) (hb : w.heap[pb]? = some (.cells cs ty (0, 0))) : pb ≠ mb := fun e => by
  subst e
  obtain ⟨es, clock, hb', _⟩ := h
  rw [hb] at hb'
  simp at hb'
/-- The list one longer. -/
theorem Past.mid {w1 W w4 : World} {pb mb : Nat} {d : ByteArray} {f c : Nat} {v v4 : Value} {lp : Int} (h : Past w1 pb mb d f c v) (hfc : f ≤ c) (t : Touch (fun _ => False) w1 W) (hlp : lp = lastP d f c (k3 d c)) (hown : w4.ownsRow 0 3 1 v4 (c - f + 1) (befV d f (c - f) ++ [.int .i64 lp])) (hg : W.grownBy w4 v.ownBlock) (hat : v4.ownBlock = v.ownBlock ∨ v4.ownBlock = some W.heap.size) : MidP w1 (w4.setCell ⟨pb, 3, none⟩ v4) pb mb d f c v v4 := by
  have hW := h.kept t
  obtain ⟨D, hm, hD, hkey⟩ := hW.map
  have hne : v.ownBlock ≠ some pb := row_ne hW.row hW.blk (by decide)
  have hb4 : w4.heap[pb]? = some (.cells #[.string d, .int .i64 (f : Nat), .map (some mb), v] 98 (0, 0)) := (hg.block pb (lt_of_block hW.blk) (fun e => hne e.symm)).trans hW.blk
  have hm4 := hm.kept hg (fun e => own_map_ne hm hW.row e.symm)
  have hne4 : v4.ownBlock ≠ some pb := row_ne hown hb4 (by decide)
  refine ⟨?_, ⟨D, hm4.kept (row := some pb) ⟨rfl, rfl, rfl, by simp [World.setCell], fun k hk hn => ?_⟩ (fun e => blk_map_ne hm4 hb4 (Option.some.inj e).symm), hD, hkey⟩, ?_, ?_, ?_⟩
  · exact blk_set hb4 3 v4
  · exact Below.heap_setCell _ _ _ _ (fun e => hn (by rw [e]))
  · rw [show c + 1 - f = c - f + 1 by omega, befV_succ, show f + (c - f) = c by omega, ← hlp]
    exact own_kept hown (fun g hgg => Below.heap_setCell _ _ _ _ (fun e => hne4 (by rw [hgg, e])))
  · exact ((t.mono (fun _ _ e => e.elim)).grown hg (fun k hk _ => .inr (.inr hk))).setCell (fun _ => .inl rfl) v4
  · rcases hat with e | e
    · exact .inl e
    · exact .inr ⟨_, e, t.size⟩
/-- And the map. -/
theorem MidP.done {w1 w5 w6 : World} {pb mb : Nat} {d : ByteArray} {f c : Nat} {v v4 : Value} {D : DataW Unit} (h : MidP w1 w5 pb mb d f c v v4) (hfc : f ≤ c) (hD : IsMap D) (hm : w5.ownsMap Try.prog 3 (plainElem Try.prog 3) mb (c - f) D) (hkey : ∀ key : Nat, D.atKey (.int .i64 (key : Nat)) (.lit (.int .i64 0)) = .lit (.int .i64 (lastP d f c key + 1))) (hown : w6.ownsMap Try.prog 3 (plainElem Try.prog 3) mb (c - f + 1) (D.put (.int .i64 ((k3 d c : Nat) : Int)) (.lit (.int .i64 ((c : Int) + 1))))) (hg : w5.grownBy w6 (some mb)) : PStep w1 w6 pb mb d f (c + 1) v v4 := by
  have hpm := blk_map_ne hm h.blk
  have hrm := own_map_ne hm h.row
  refine ⟨⟨(hg.block pb (lt_of_block h.blk) (fun e => hpm (Option.some.inj e))).trans h.blk, ⟨_, by rw [show c + 1 - f = c - f + 1 by omega]; exact hown, hD.put _ _, fun key => ?_⟩, own_kept h.row (fun g hgg => hg.block g (h.row.lt g hgg).2 (fun e => hrm (by rw [hgg, e])))⟩, h.touch.grown hg (fun k hk _ => .inr (.inl (Option.some.inj hk).symm)), h.own⟩
  by_cases hk : k3 d c = key
  · subst hk
    rw [atKey_put_same hD (by exact trivial), lastP, if_pos ⟨hfc, rfl⟩]
  · rw [atKey_put_other (by simp; omega), hkey key, lastP, if_neg (fun e => hk e.2)]
set_option maxRecDepth 100000 in
set_option maxHeartbeats 8000000 in
theorem learn_any (d : ByteArray) (pb mb f L t : Nat) (vb : Value) (w : World) (h : Past w pb mb d f L vb) (hfL : f ≤ L) (ht : t + 2 ≤ d.size ∨ t ≤ L) (hd : d.size ≤ 1073741824) (hL : L ≤ d.size) :
    Calls Try.prog 60 #[.pointer (some ⟨pb, 0, none⟩), .int .i64 (t : Nat)] w fun e w' => e = .returned (.tuple #[]) ∧ ∃ vb', PStep w w' pb mb d f (max L t) vb vb' := by
  obtain ⟨i0, hi3, hz0, hz1, hz2⟩ := info_parts info3Q
  have H := hid h
  obtain ⟨av, cv, hv⟩ := own_shapeQ h.row
  subst hv
  have hc0 : w.cell? ⟨pb, 1, none⟩ = some (.int .i64 (f : Nat)) := blk_cell h.blk 1 (by simp)
  have hc1 : w.cell? ⟨pb, 3, none⟩ = some (.slice av (L - f) cv) := blk_cell h.blk 3 (by simp)
  have hs : IntKind.i64.wrap ((f : Int) + ((L - f : Nat) : Int)) = (L : Int) := by rw [IntKind.wrap_i64]; omega
  clear h
  go_enter Try.func60, Try.ntmps60
  go_upto_region 0 with fail
  go_cut [4] (fun v wd => v = .int .i64 (L : Nat) ∧ Touch (fun _ => False) w wd)
  case first =>
    go_quiet (fail)
    go_wp2
    go_meet
    case rel => exact ⟨by first | rfl | exact congrArg (Value.int .i64) hs, (Touch.refl _ _).drewN _⟩
  obtain ⟨rfl, ht0⟩ := hcut
  have P0 := hid ((PStep.refl H.out).still ht0)
  clear hc0 hc1 hs ht0 H
  go_wp2_with fail
  go_loopg [4] (max L t - L) (fun gk v4 wq => ∃ (c : Nat) (v : Value), L ≤ c ∧ c + gk = max L t ∧ v4 = .int .i64 (c : Nat) ∧ PStep w wq pb mb d f c (.slice av (L - f) cv) v)
  case atStart => exact ⟨L, _, by omega, by omega, rfl, P0.out⟩
  case round =>
    obtain ⟨c, v, hcL, hcg, rfl, hps⟩ := hrel
    have PS := hid hps
    by_cases hlt : c < t
    · have hctI : (c : Int) < (t : Int) := by omega
      have K3 := hid (three_any d pb c wr (blk_cell hps.past.blk 0 (by simp)) (by omega) hd)
      obtain ⟨a1, c1, hv1⟩ := own_shapeQ hps.past.row
      subst hv1
      clear hps
      go_wp2_with fail
      refine K3.out.mono ?_
      rintro e w1 ⟨rfl, t1⟩
      have P1 := hid (PS.out.still t1)
      obtain ⟨key, hkey⟩ : ∃ key, key = k3 d c := ⟨_, rfl⟩
      have hkl : key < 16777216 := by rw [hkey]; exact k3_lt d c
      have HKEY := hid hkey
      rw [← hkey]
      obtain ⟨lp, hlp⟩ : ∃ lp : Int, lp = lastP d f c key := ⟨_, rfl⟩
      have hlb := lastP_in d f c key
      rw [← hlp] at hlb
      have hlk : (Instr.lookup 96 (.map (some mb)) (.int .i64 (key : Nat)) false).run Try.prog w1 = .ok (.int .i64 (lp + 1)) w1 := by rw [hlp]; exact P1.out.past.look key hkl
      have hlk2 : (Instr.lookup 96 (.map (some mb)) (.int .i64 (key : Nat)) false).run Try.prog w1.drew = .ok (.int .i64 (lp + 1)) w1.drew := by rw [hlp]; exact (P1.out.past.kept (Touch.refl (fun _ => False) w1).drew).look key hkl
      have HLP := hid hlp
      have d2 : w1.cell? ⟨pb, 2, none⟩ = some (.map (some mb)) := blk_cell P1.out.past.blk 2 (by simp)
      have d3 : w1.cell? ⟨pb, 3, none⟩ = some (.slice a1 (c - f) c1) := blk_cell P1.out.past.blk 3 (by simp)
      have f3 : w1.frozen? ⟨pb, 3, none⟩ = false := blk_free P1.out.past.blk 3
      have hws : IntKind.i64.wrap lp = lp := by rw [IntKind.wrap_i64]; omega
      have PBL := hid (lt_of_block P1.out.past.blk)
      have ROW := hid P1.out.past.row
      clear t1 K3 PS hkey hlp
      go_upto_region 4 with fail
      have d3a : (w1.alloc (.cells #[.int .i64 lp] 3)).cell? ⟨pb, 3, none⟩ = some (.slice a1 (c - f) c1) := (((Touch.refl (fun _ => False) w1).alloc _).cell (p := ⟨pb, 3, none⟩) PBL.out id).trans d3
      have d2a : (w1.alloc (.cells #[.int .i64 lp] 3)).cell? ⟨pb, 2, none⟩ = some (.map (some mb)) := (((Touch.refl (fun _ => False) w1).alloc _).cell (p := ⟨pb, 2, none⟩) PBL.out id).trans d2
      have NE := hid (show (Value.slice a1 (c - f) c1).ownBlock ≠ some pb from row_ne ROW.out P1.out.past.blk (by decide))
      have BLK := hid P1.out.past.blk
      have HFC := hid (show f ≤ c by omega)
      go_cut [] (fun wd => ∃ v4, MidP w1 wd pb mb d f c (.slice a1 (c - f) c1) v4)
      case first =>
        go_region_law (
          (refine step_append_ownQ _ (by rfl) _ _ _ (by rfl) 0 3 i0 _ 1 8 Try.underlying58 hi3 hz0 hz1 hz2 rfl (by decide) _ _ _ (by rfl) ((ROW.out.alloc _).drew) ⟨w1.heap.size, 0, none⟩ 1 1 [.int .i64 lp] (by rfl) (by rfl) (cell_one_new w1 (.int .i64 lp) 3) (by intro u hu; simp at hu; subst hu; rfl) (by unfold maxLen; omega) (by omega) (Nat.zero_le _) (w1.heap.size + 1) (by simp) ?_
           intro v4 w4 hown hgrow hat
           obtain ⟨a4, c4, hv4⟩ := own_shapeQ hown
           subst hv4
           have hb4 : w4.heap[pb]? = some (.cells #[.string d, .int .i64 (f : Nat), .map (some mb), .slice a1 (c - f) c1] 98 (0, 0)) := (hgrow.block pb (by simp; have := PBL.out; omega) (fun e => NE.out e.symm)).trans ((Below.heap_alloc _ _ _ PBL.out).trans BLK.out)
           have g3 : w4.cell? ⟨pb, 3, none⟩ = some (.slice a1 (c - f) c1) := blk_cell hb4 3 (by simp)
           have gf : w4.frozen? ⟨pb, 3, none⟩ = false := blk_free hb4 3
           have HO := hid hown
           have HG := hid hgrow
           have HA := hid hat
           clear hb4 hown hgrow hat))
        all_goals go_wp2
        all_goals go_meet
        all_goals exact ⟨_, P1.out.past.mid HFC.out ((Touch.refl (fun _ => False) w1).alloc _).drew (by rw [HLP.out, HKEY.out]) HO.out HG.out (by have := HA.out; simpa using this)⟩
      obtain ⟨v4, hmid⟩ := hcut
      have MI := hid hmid
      obtain ⟨D, hm, hD, hkk⟩ := hmid.map
      have HM := hid hm
      have HD := hid hD
      have HKK := hid hkk
      have m2 : wc.cell? ⟨pb, 2, none⟩ = some (.map (some mb)) := blk_cell hmid.blk 2 (by simp)
      have hwc : IntKind.i64.wrap ((c : Int) + 1) = (c : Int) + 1 := by rw [IntKind.wrap_i64]; omega
      have KN := hid (keyN key hkl)
      clear hmid hm hD hkk d2 d3 d2a d3a f3 hlk hlk2 hws ROW NE BLK
      go_wp2_with (first
        | (at_mapUpdate; refine wpList_mapUpdate_own _ rfl _ _ _ 96 rfl 3 3 law3 Try.underlying96 _ mb (c - f) D rfl HM.out (by unfold maxLen; omega) _ _ _ rfl rfl KN.out _ [] (plainElem_int Try.underlying3 (WalkArith.wf_i64 (by omega))) ?_)
        | go_in)
      intro w6 hown6 hgrow6
      have PF := hid (P1.out.trans (MI.out.done HFC.out HD.out HM.out HKK.out (by rw [← HKEY.out]; exact hown6) hgrow6))
      clear hown6 hgrow6
      go_wp2
      go_roundg (gk - 1)
      case measure => omega
      case rel => exact ⟨c + 1, v4, by omega, by omega, by go_num, PF.out⟩
    · obtain rfl : c = max L t := by omega
      have hctI : ¬ ((max L t : Nat) : Int) < (t : Int) := by omega
      clear hps
      go_wp2_with fail
      go_end0
      exact ⟨rfl, v, PS.out⟩
end Go.Proofs.Ythengfclijclmaa

/- find; conditions: those told. -/
namespace Go.Proofs.Ythengfclijclmaa
open Go.RowKit
open Go.Lib

open Go.Maps
/-- Along the places at which three bytes stood before: the longest that comes again, the nearest one first. -/
def fndGo (d : ByteArray) (f at_ most reach : Nat) : Nat → Int → Nat → Nat → Nat × Nat
  | 0, _, len, dist => (len, dist)
  | g + 1, place, len, dist =>
    if 0 ≤ place ∧ (at_ : Int) - place ≤ reach ∧ len < most then
      if len < smN d place.toNat at_ len most then fndGo d f at_ most reach g (lastP d f place.toNat (k3 d place.toNat)) (smN d place.toNat at_ len most) (at_ - place.toNat)
      else fndGo d f at_ most reach g (lastP d f place.toNat (k3 d place.toNat)) len dist
    else (len, dist)
/-- What find answers. -/
def fnd (d : ByteArray) (f at_ to_ reach : Nat) : Nat × Nat :=
  if min 258 (to_ - at_) < 3 ∨ reach = 0 then (0, 0)
  else if (fndGo d f at_ (min 258 (to_ - at_)) reach (at_ + 1) (lastP d f at_ (k3 d at_)) 2 0).2 = 0 then (0, 0)
  else fndGo d f at_ (min 258 (to_ - at_)) reach (at_ + 1) (lastP d f at_ (k3 d at_)) 2 0
theorem lastP_from (d : ByteArray) (f : Nat) : ∀ (L key : Nat), lastP d f L key = -1 ∨ (f : Int) ≤ lastP d f L key
  | 0, _ => .inl rfl
  | L + 1, key => by
    have := lastP_from d f L key
    unfold lastP
    split <;> omega
theorem befV_at (d : ByteArray) (f n i : Nat) (h : i < n) : (befV d f n)[i]? = some (.int .i64 (lastP d f (f + i) (k3 d (f + i)))) := by
  unfold befV
  simp [h]
theorem smN_le (d : ByteArray) (p q len most : Nat) : smN d p q len most ≤ most := by
  have h : ∀ g n, eqN d p q g n ≤ n + g := by
    intro g
    induction g with
    | zero => intro n; unfold eqN; omega
    | succ g ih =>
      intro n
      unfold eqN
      split
      · have := ih (n + 1); omega
      · omega
  unfold smN
  split
  · have := h most 0; omega
  · omega
set_option maxRecDepth 100000 in
set_option maxHeartbeats 8000000 in
theorem find_long (d : ByteArray) (pb mb f L p t reach most : Nat) (vb : Value) (w : World) (h : Past w pb mb d f L vb) (hfL : f ≤ L) (hLp : L ≤ p) (hpt : p ≤ t) (ht : t ≤ d.size) (hd : d.size ≤ 1073741824) (hr : reach ≤ 32768) (hm : min 258 (t - p) = most) (h3 : 3 ≤ most) (h0 : reach ≠ 0) (F : Nat × Nat) (hF : fndGo d f p most reach (p + 1) (lastP d f p (k3 d p)) 2 0 = F) (rl rd : Nat) (hrl : rl = if F.2 = 0 then 0 else F.1) (hrd : rd = F.2) :
    Calls Try.prog 41 #[.pointer (some ⟨pb, 0, none⟩), .int .i64 (p : Nat), .int .i64 (t : Nat), .int .i64 (reach : Nat)] w fun e w' => e = .returned (.tuple #[.int .i64 (rl : Nat), .int .i64 (rd : Nat)]) ∧ ∃ vb', PStep w w' pb mb d f p vb vb' := by
  have KL := hid (learn_any d pb mb f L p vb w h hfL (by omega) hd (by omega))
  rw [Nat.max_eq_right hLp] at KL
  have HF := hid hF
  have HRL := hid hrl
  have HRD := hid hrd
  have hm1 : most ≤ 258 ∧ p + most ≤ t := by omega
  have hmi : (258 : Int) ≤ (t : Int) - (p : Int) ∧ most = 258 ∨ (t : Int) - (p : Int) < 258 ∧ (t : Int) - (p : Int) = (most : Int) := by omega
  have h3I : (3 : Int) ≤ (most : Int) := by omega
  have h0I : ((reach : Int) == 0) = false := by simp; omega
  have hmn : ((most : Int) < 3) = False := by simp; omega
  clear h hm hF hLp hrl hrd
  go_enter Try.func41, Try.ntmps41
  go_upto_region 1 with fail
  go_cut [10] (fun v wd => v = .int .i64 (most : Nat) ∧ w = wd)
  case first =>
    rcases hmi with ⟨hA, rfl⟩ | ⟨hA, hB⟩
    · go_wp2
      go_meet
      case rel => exact ⟨rfl, rfl⟩
    · go_wp2
      go_meet
      case rel => exact ⟨by first | rfl | simp [hB], rfl⟩
  obtain ⟨rfl, rfl⟩ := hcut
  clear hmi
  go_wp2_with fail
  refine KL.out.mono ?_
  rintro e w1 ⟨rfl, v1, ps⟩
  have PS := hid ps
  obtain ⟨key, hkey⟩ : ∃ key, key = k3 d p := ⟨_, rfl⟩
  have hkl : key < 16777216 := by rw [hkey]; exact k3_lt d p
  obtain ⟨lp, hlp⟩ : ∃ lp : Int, lp = lastP d f p key := ⟨_, rfl⟩
  have hlb := lastP_in d f p key
  rw [← hlp] at hlb
  have LPF := hid (show lp = -1 ∨ (f : Int) ≤ lp by rw [hlp]; exact lastP_from d f p key)
  have LK := hid (show ∀ W, Touch (fun _ => False) w1 W → W.cell? ⟨pb, 2, none⟩ = some (.map (some mb)) ∧ (Instr.lookup 96 (.map (some mb)) (.int .i64 (key : Nat)) false).run Try.prog W = .ok (.int .i64 (lp + 1)) W ∧ Hid (Touch (fun _ => False) w1 W) from fun W t => ⟨blk_cell (PS.out.past.kept t).blk 2 (by simp), by rw [hlp]; exact (PS.out.past.kept t).look key hkl, t⟩)
  have K3 := hid (fun (W : World) (t : Touch (fun _ => False) w1 W) => three_any d pb p W (blk_cell (PS.out.past.kept t).blk 0 (by simp)) (by omega) hd)
  rw [← hkey] at K3 HF
  rw [← hlp] at HF
  have hws : IntKind.i64.wrap lp = lp := by rw [IntKind.wrap_i64]; omega
  clear ps KL hkey hlp
  go_upto_region 6 with fail
  go_cut [13] (fun v wd => v = .int .i64 lp ∧ Touch (fun _ => False) w1 wd)
  case first =>
    first
    | (go_region_held (fun w' => w'.cell? ⟨pb, 2, none⟩ = some (.map (some mb)) ∧ (Instr.lookup 96 (.map (some mb)) (.int .i64 (key : Nat)) false).run Try.prog w' = .ok (.int .i64 (lp + 1)) w' ∧ Hid (Touch (fun _ => False) w1 w'))
        (first
         | exact LK.out _ (Touch.refl _ _)
         | exact LK.out _ (Touch.refl _ _).drew
         | exact LK.out _ T2.out)
        (first
         | (go_at_call 61
            refine (K3.out _ (by first | exact Touch.refl _ _ | exact (Touch.refl (fun _ => False) w1).drew)).mono ?_
            rintro e w2 ⟨rfl, t2⟩
            have T2 := hid (show Touch (fun _ => False) w1 w2 from by first | exact t2 | exact (Touch.refl (fun _ => False) w1).drew.trans t2 (fun _ _ e => e))
            clear t2)))
    | fail
    all_goals go_wp2
    all_goals go_meet
    all_goals exact ⟨by first | rfl | simp [hws], T2.out⟩
  obtain ⟨rfl, ht1⟩ := hcut
  have T1 := hid ht1
  clear ht1 K3 LK hws
  obtain ⟨n1, hn1⟩ : ∃ n1, n1 = v1 := ⟨_, rfl⟩
  obtain ⟨av, cv, hv⟩ := own_shapeQ PS.out.past.row
  have P2 := hid (PS.out.still T1.out)
  rw [hv] at P2 PS
  clear hv hn1 n1
  go_wp2_with fail
  go_loopg [11, 12, 13] (p + 1) (fun gk v11 v12 v13 wq => ∃ (len dist : Nat) (pl : Int), v11 = .int .i64 (len : Nat) ∧ v12 = .int .i64 (dist : Nat) ∧ v13 = .int .i64 pl ∧ 2 ≤ len ∧ len ≤ most ∧ dist ≤ p ∧ -1 ≤ pl ∧ pl < (p : Int) ∧ pl < (gk : Int) ∧ fndGo d f p most reach gk pl len dist = F ∧ (pl = -1 ∨ (f : Int) ≤ pl) ∧ PStep w wq pb mb d f p vb (.slice av (p - f) cv))
  case atStart => exact ⟨2, 0, lp, rfl, rfl, rfl, by omega, by omega, by omega, by omega, by omega, by omega, HF.out, LPF.out, P2.out⟩
  case round =>
    obtain ⟨len, dist, pl, rfl, rfl, rfl, hl2, hlm, hdp, hp1, hpp, hpg, hgo, hpf, hps⟩ := hrel
    have GO := hid hgo
    have P3 := hid hps
    clear hgo hps
    by_cases hge : 0 ≤ pl
    · by_cases hre : (p : Int) - pl ≤ (reach : Int)
      · by_cases hle : len < most
        · obtain ⟨gg, rfl⟩ : ∃ gg, gk = gg + 1 := ⟨gk - 1, by omega⟩
          obtain ⟨q, rfl⟩ : ∃ q : Nat, pl = (q : Int) := ⟨pl.toNat, by omega⟩
          obtain ⟨i, hiq⟩ : ∃ i : Nat, q = f + i := ⟨q - f, by omega⟩
          have hi : i < p - f := by omega
          obtain ⟨g, hg⟩ : ∃ g, av = some ⟨g, 0, none⟩ := by
            rcases P3.out.past.row.2 with ⟨h1, h2⟩ | ⟨g, cap, cur, h1, _⟩
            · omega
            · simp at h1
              exact ⟨g, h1.1⟩
          subst hg
          obtain ⟨n, hn⟩ : ∃ n, n = smN d q p len most := ⟨_, rfl⟩
          have hnm : n ≤ most := by rw [hn]; exact smN_le _ _ _ _ _
          obtain ⟨pl2, hpl2⟩ : ∃ x : Int, x = lastP d f q (k3 d q) := ⟨_, rfl⟩
          have hb2 := lastP_in d f q (k3 d q)
          rw [← hpl2] at hb2
          have PF2 := hid (show pl2 = -1 ∨ (f : Int) ≤ pl2 by rw [hpl2]; exact lastP_from d f q _)
          have HPL := hid (show lastP d f (f + i) (k3 d (f + i)) = pl2 by rw [← hiq, hpl2])
          have KS := hid (same_any d pb q p len most wr (blk_cell P3.out.past.blk 0 (by simp)) (by omega) (by omega) hle hd)
          rw [← hn] at KS
          have hleI : (len : Int) < (most : Int) := by omega
          have hix : IntKind.i64.wrap ((q : Int) - (f : Int)) = (i : Int) := by rw [IntKind.wrap_i64]; omega
          have hixI : (i : Int) < ((p - f : Nat) : Int) := by omega
          have STEP := hid (show fndGo d f p most reach (gg + 1) (q : Int) len dist = if len < n then fndGo d f p most reach gg pl2 n (p - q) else fndGo d f p most reach gg pl2 len dist by
            rw [fndGo, if_pos ⟨by omega, hre, hle⟩, Int.toNat_natCast, ← hn, ← hpl2])
          clear hn hpl2 hpf hge hiq
          by_cases hbig : len < n
          · have hbI : (len : Int) < (n : Int) := by omega
            have GS := hid (show fndGo d f p most reach gg pl2 n (p - q) = F by rw [← GO.out, STEP.out, if_pos hbig])
            clear STEP GO
            go_wp2_with fail
            refine KS.out.mono ?_
            rintro e w4 ⟨rfl, t4⟩
            have P4 := hid (P3.out.still t4)
            have e1 : w4.cell? ⟨pb, 1, none⟩ = some (.int .i64 (f : Nat)) := blk_cell P4.out.past.blk 1 (by simp)
            have e3 : w4.cell? ⟨pb, 3, none⟩ = some (.slice (some ⟨g, 0, none⟩) (p - f) cv) := blk_cell P4.out.past.blk 3 (by simp)
            have e4 : w4.cell? ⟨g, i, none⟩ = some (.int .i64 pl2) := by
              have := P4.out.past.row.cells (g := g) rfl i _ (befV_at d f (p - f) i hi)
              rw [add_zero] at this
              rw [this, HPL.out]
            clear t4 KS
            have T4 := hid (fun n => P4.out.still ((Touch.refl (fun _ => False) w4).drewN n))
            go_upto_region 11 with fail
            go_quiet (fail)
            go_wp2_with fail
            go_roundg gg
            case measure => omega
            case rel => exact ⟨n, p - q, pl2, by first | rfl | go_num, by first | rfl | go_num, rfl, by omega, by omega, by omega, by omega, by omega, by omega, GS.out, PF2.out, T4.out _⟩
          · have hbI : ¬ ((len : Int) < (n : Int)) := by omega
            have GS := hid (show fndGo d f p most reach gg pl2 len dist = F by rw [← GO.out, STEP.out, if_neg hbig])
            clear STEP GO
            go_wp2_with fail
            refine KS.out.mono ?_
            rintro e w4 ⟨rfl, t4⟩
            have P4 := hid (P3.out.still t4)
            have e1 : w4.cell? ⟨pb, 1, none⟩ = some (.int .i64 (f : Nat)) := blk_cell P4.out.past.blk 1 (by simp)
            have e3 : w4.cell? ⟨pb, 3, none⟩ = some (.slice (some ⟨g, 0, none⟩) (p - f) cv) := blk_cell P4.out.past.blk 3 (by simp)
            have e4 : w4.cell? ⟨g, i, none⟩ = some (.int .i64 pl2) := by
              have := P4.out.past.row.cells (g := g) rfl i _ (befV_at d f (p - f) i hi)
              rw [add_zero] at this
              rw [this, HPL.out]
            clear t4 KS
            have T4 := hid (fun n => P4.out.still ((Touch.refl (fun _ => False) w4).drewN n))
            go_upto_region 11 with fail
            go_quiet (fail)
            go_wp2_with fail
            go_roundg gg
            case measure => omega
            case rel => exact ⟨len, dist, pl2, by first | rfl | go_num, by first | rfl | go_num, rfl, by omega, by omega, by omega, by omega, by omega, by omega, GS.out, PF2.out, T4.out _⟩
        · have hleI : ¬ ((len : Int) < (most : Int)) := by omega
          have STOP := hid (show fndGo d f p most reach gk pl len dist = (len, dist) by
            cases gk with
            | zero => rfl
            | succ g => rw [fndGo, if_neg (fun e => hle e.2.2)])
          have FE := hid (show F = (len, dist) by rw [← GO.out]; exact STOP.out)
          by_cases hd0 : dist = 0
          · have hdb : ((dist : Int) == 0) = true := by simp [hd0]
            have R1 := hid (show rl = 0 ∧ rd = 0 by rw [HRL.out, HRD.out, FE.out]; simp [hd0])
            clear hd0
            go_wp2_with fail
            refine bodyPost_ret (results_tmp2 rfl _ _ _) rfl ?_
            exact ⟨by rw [R1.out.1, R1.out.2]; rfl, _, P3.out⟩
          · have hdb : ((dist : Int) == 0) = false := by simp; omega
            have R1 := hid (show rl = len ∧ rd = dist by rw [HRL.out, HRD.out, FE.out]; simp [hd0])
            clear hd0
            go_wp2_with fail
            refine bodyPost_ret (results_tmp2 rfl _ _ _) rfl ?_
            exact ⟨by rw [R1.out.1, R1.out.2]; rfl, _, P3.out⟩
      · have STOP := hid (show fndGo d f p most reach gk pl len dist = (len, dist) by
          cases gk with
          | zero => rfl
          | succ g => rw [fndGo, if_neg (fun e => hre e.2.1)])
        have hreI : ¬ ((p : Int) - pl ≤ (reach : Int)) := hre
        have FE := hid (show F = (len, dist) by rw [← GO.out]; exact STOP.out)
        by_cases hd0 : dist = 0
        · have hdb : ((dist : Int) == 0) = true := by simp [hd0]
          have R1 := hid (show rl = 0 ∧ rd = 0 by rw [HRL.out, HRD.out, FE.out]; simp [hd0])
          clear hd0
          go_wp2_with fail
          refine bodyPost_ret (results_tmp2 rfl _ _ _) rfl ?_
          exact ⟨by rw [R1.out.1, R1.out.2]; rfl, _, P3.out⟩
        · have hdb : ((dist : Int) == 0) = false := by simp; omega
          have R1 := hid (show rl = len ∧ rd = dist by rw [HRL.out, HRD.out, FE.out]; simp [hd0])
          clear hd0
          go_wp2_with fail
          refine bodyPost_ret (results_tmp2 rfl _ _ _) rfl ?_
          exact ⟨by rw [R1.out.1, R1.out.2]; rfl, _, P3.out⟩
    · have STOP := hid (show fndGo d f p most reach gk pl len dist = (len, dist) by
        cases gk with
        | zero => rfl
        | succ g => rw [fndGo, if_neg (fun e => hge e.1)])
      have hgeI : pl < 0 := by omega
      have FE := hid (show F = (len, dist) by rw [← GO.out]; exact STOP.out)
      by_cases hd0 : dist = 0
      · have hdb : ((dist : Int) == 0) = true := by simp [hd0]
        have R1 := hid (show rl = 0 ∧ rd = 0 by rw [HRL.out, HRD.out, FE.out]; simp [hd0])
        clear hd0
        go_wp2_with fail
        refine bodyPost_ret (results_tmp2 rfl _ _ _) rfl ?_
        exact ⟨by rw [R1.out.1, R1.out.2]; rfl, _, P3.out⟩
      · have hdb : ((dist : Int) == 0) = false := by simp; omega
        have R1 := hid (show rl = len ∧ rd = dist by rw [HRL.out, HRD.out, FE.out]; simp [hd0])
        clear hd0
        go_wp2_with fail
        refine bodyPost_ret (results_tmp2 rfl _ _ _) rfl ?_
        exact ⟨by rw [R1.out.1, R1.out.2]; rfl, _, P3.out⟩
end Go.Proofs.Ythengfclijclmaa
