/- Texts of this proof, one behind the other: what each says stands ahead of it. -/
import Derived.Test.YtaidcapflcobiaaM2
import Derived.Deep.RegionHeld3
import Derived.Deep.RegionWith
import Derived.Deep.RegionLaw
import Derived.Laws.MakeOwn
import Derived.Test.YtaidcapflcobiaaM1
/- lay: what spans touch; conditions: the lines rise, all fits into memory. -/
namespace Go.Proofs.Ytaidcapflcobiaa
open Go.RowKit

theorem info39 : (Try.prog.info? 39).map (fun i => (i.zero, i.size, i.bytes)) = some (some (.slice none 0 0), 1, 24) := by kernel_rfl
theorem mk51 (n : Nat) (hn : n ≤ 4194304) (w : World) : (Instr.makeSlice 51 (.int .i64 n) (.int .i64 n)).run Try.prog w = .ok (.slice (some ⟨w.heap.size, 0, none⟩) n n) (w.alloc (.cells (madeCells #[.slice none 0 0] n) 39)) := by
  obtain ⟨i0, hi, hz0, hz1, hz2⟩ := info_parts info39
  have := run_make (P := Try.prog) w 51 39 i0 (.slice none 0 0) Try.underlying51 hi hz0 .i64 .i64 n n (by omega) (by omega) (by rw [hz2]; omega) (by omega)
  rw [hz1] at this
  simpa [Value.cells] using this
theorem mk39 (n : Nat) (hn : n ≤ 4194304) (w : World) : (Instr.makeSlice 39 (.int .i64 ((n : Int) + 1)) (.int .i64 ((n : Int) + 1))).run Try.prog w = .ok (.slice (some ⟨w.heap.size, 0, none⟩) (n + 1) (n + 1)) (w.alloc (.cells (madeCells #[.int .i64 0] (n + 1)) 3)) := by
  obtain ⟨i0, hi, hz0, hz1, hz2⟩ := info_parts info3
  have := run_make (P := Try.prog) w 39 3 i0 (.int .i64 0) Try.underlying39 hi hz0 .i64 .i64 (n + 1 : Nat) (n + 1 : Nat) (by omega) (by omega) (by rw [hz2]; omega) (by omega)
  rw [hz1] at this
  simpa [Value.cells] using this
theorem made_at (z : Value) (n i : Nat) (h : i < n) : (madeCells #[z] n)[i]? = some z := by
  unfold madeCells
  rw [Array.getElem?_map, Array.getElem?_range, if_pos h]
  simp [Nat.mod_one]
theorem made_size (z : Value) (n : Nat) : (madeCells #[z] n).size = n := by simp [madeCells]
theorem al1 (w : World) (r a b c : Obj) : ((((w.alloc r).alloc a).alloc b).alloc c).drew.heap[w.heap.size + 1]? = some a := by
  have h := heap_alloc_new (w.alloc r) a
  rw [World.size_alloc] at h
  exact (Below.heap_alloc _ _ _ (by simp only [World.size_alloc]; omega)).trans ((Below.heap_alloc _ _ _ (by simp only [World.size_alloc]; omega)).trans h)
theorem al2 (w : World) (r a b c : Obj) : ((((w.alloc r).alloc a).alloc b).alloc c).drew.heap[w.heap.size + 1 + 1]? = some b := by
  have h := heap_alloc_new ((w.alloc r).alloc a) b
  simp only [World.size_alloc] at h
  exact (Below.heap_alloc _ _ _ (by simp only [World.size_alloc]; omega)).trans h
theorem al3 (w : World) (r a b c : Obj) : ((((w.alloc r).alloc a).alloc b).alloc c).drew.heap[w.heap.size + 1 + 1 + 1]? = some c := by
  have h := heap_alloc_new (((w.alloc r).alloc a).alloc b) c
  simp only [World.size_alloc] at h
  exact h
theorem ly_start {W0 w : World} {tb bg ch n : Nat} (h0 : w.heap[tb]? = some (.cells #[.slice (some ⟨bg, 0, none⟩) n n, .slice (some ⟨ch, 0, none⟩) (n + 1) (n + 1)] 53 (0, 0))) (h1 : w.heap[bg]? = some (.cells (madeCells #[.slice none 0 0] n) 39 (0, 0))) (h2 : w.heap[ch]? = some (.cells (madeCells #[.int .i64 0] (n + 1)) 3 (0, 0)))
    (hn : W0.heap.size ≤ tb ∧ W0.heap.size ≤ bg ∧ W0.heap.size ≤ ch) (t : Touch (fun _ => False) W0 w) : Ly W0 w tb bg ch n (fun _ => .slice none 0 0) (fun _ => []) (fun _ => 0) :=
  ⟨h0, ⟨_, made_size _ _, h1, fun i hi => made_at _ _ _ hi⟩, ⟨_, made_size _ _, h2, fun i hi => made_at _ _ _ hi⟩, fun _ _ => World.ownsRow_nil _ _ _ _, fun _ _ g hg => by simp [Value.ownBlock] at hg, fun _ _ _ _ _ g hg => by simp [Value.ownBlock] at hg, hn, t⟩
theorem Ly.same {W0 w : World} {tb bg ch n : Nat} {vs : Nat → Value} {B B' : Nat → List Int} {C C' : Nat → Int} (h : Ly W0 w tb bg ch n vs B C) (hb : ∀ i, i < n → B' i = B i) (hc : ∀ i, i < n + 1 → C' i = C i) : Ly W0 w tb bg ch n vs B' C' := by
  obtain ⟨c2, s2, h2, k2⟩ := h.chk
  exact ⟨h.tbk, h.bgk, ⟨c2, s2, h2, fun i hi => by rw [hc i hi]; exact k2 i hi⟩, fun i hi => by rw [hb i hi]; exact h.own i hi, h.new, h.dis, h.n0, h.touch⟩
theorem Ly.base {W0 W1 w : World} {tb bg ch n : Nat} {vs : Nat → Value} {B : Nat → List Int} {C : Nat → Int} (h : Ly W1 w tb bg ch n vs B C) (t : Touch (fun _ => False) W0 W1) : Ly W0 w tb bg ch n vs B C :=
  ⟨h.tbk, h.bgk, h.chk, h.own, fun i hi g hg => ⟨Nat.le_trans t.size (h.new i hi g hg).1, (h.new i hi g hg).2⟩, h.dis, ⟨Nat.le_trans t.size h.n0.1, Nat.le_trans t.size h.n0.2.1, Nat.le_trans t.size h.n0.2.2⟩, t.trans h.touch (fun _ _ e => e)⟩
theorem step_append_own {P : Program} (w : World) {ops : Array Oper} {o : Oper} {a : Act} {K : Act → World → Prop} {Q : Exit → Act → World → Prop} {E : Prop} (hgd : o.guard = none) (s x : Operand) (t : TypeId)
    (ho : o.op = .call { callee := .builtin .append, args := #[s, x], argTypes := #[t, t] })
    (base : Nat) (e : TypeId) (i : TypeInfo) (z : Value) (size bytes : Nat) (ht : P.underlying t = some (.slice e)) (hi : P.info? e = some i) (hz : i.zero = some z)
    (hsize : i.size = size) (hby : i.bytes = bytes) (hzs : z.cells.size = size) (hsz : 0 < size)
    (v : Value) (n : Nat) (xs : List Value) (hs : a.eval s = v) (hown : w.ownsRow base e size v n xs)
    (ad : Addr) (m c : Nat) (news : List Value) (hx : a.eval x = .slice (some ad) m c) (hl : news.length = m * size) (hnews : ∀ j u, news[j]? = some u → w.cell? (ad.add j) = some u) (h1 : ∀ u ∈ news, u.oneCell' = true)
    (h63 : n + m ≤ maxLen) (hbytes : (n + m) * bytes ≤ 140737488355328) (hbase : base ≤ w.heap.size) (H : Nat) (hH : w.heap.size = H)
    (h : ∀ v' w', w'.ownsRow base e size v' (n + m) (xs ++ news) → w.grownBy w' v.ownBlock → (v'.ownBlock = v.ownBlock ∨ v'.ownBlock = some H) → K (a.put o.dst v') w') :
    if Region.wanted o (yielded ops a.tmps) = true then Oper.wp P o a w K Q else E := by
  have hw : Region.wanted o (yielded ops a.tmps) = true := by simp [Region.wanted, hgd]
  rw [if_pos hw]
  obtain ⟨v', w', hr, h2, h3, h4, h5⟩ := run_append_own_at (P := P) w base t o.type e i z size bytes ht hi hz hsize hby hzs hsz v n xs hown ad m c news hl hnews h1 h63 hbytes hbase
  unfold Oper.wp execOp
  simp only [ho, resolve, invoke, builtin, Sem.run_bind, Sem.run_pure, Result.andThen_ok, List.map_toArray, List.map_cons, List.map_nil, hs, hx, hr]
  exact h v' w' h2 h3 (by rw [← hH]; exact h5)


theorem frozen_kept' {w w' : World} {b i : Nat} (h : w'.heap[b]? = w.heap[b]?) : w'.frozen? ⟨b, i, none⟩ = w.frozen? ⟨b, i, none⟩ := by
  unfold World.frozen?
  rw [h]
/-- What the loads of the statement read, kept. -/
theorem keep3 {w w' : World} {tb bg f : Nat} {x y : Value} (h0 : w.cell? ⟨tb, 0, none⟩ = some x) (h1 : w.cell? ⟨bg, f, none⟩ = some y) (h2 : w.frozen? ⟨bg, f, none⟩ = false) (kt : w'.heap[tb]? = w.heap[tb]?) (kb : w'.heap[bg]? = w.heap[bg]?) :
    w'.cell? ⟨tb, 0, none⟩ = some x ∧ w'.cell? ⟨bg, f, none⟩ = some y ∧ w'.frozen? ⟨bg, f, none⟩ = false :=
  ⟨(World.cell?_of_block (w := w) kt).trans h0, (World.cell?_of_block (w := w) kb).trans h1, (frozen_kept' kb).trans h2⟩
theorem keep3T {w w' : World} {tb bg f : Nat} {x y : Value} (ht : tb < w.heap.size) (hb : bg < w.heap.size) (h0 : w.cell? ⟨tb, 0, none⟩ = some x) (h1 : w.cell? ⟨bg, f, none⟩ = some y) (h2 : w.frozen? ⟨bg, f, none⟩ = false) (t : Touch (fun _ => False) w w') :
    w'.cell? ⟨tb, 0, none⟩ = some x ∧ w'.cell? ⟨bg, f, none⟩ = some y ∧ w'.frozen? ⟨bg, f, none⟩ = false := keep3 h0 h1 h2 (t.block _ ht id) (t.block _ hb id)
theorem keep3G {w wa w' : World} {tb bg f : Nat} {x y : Value} {r : Option Nat} (ht : tb < w.heap.size) (hb : bg < w.heap.size) (h0 : w.cell? ⟨tb, 0, none⟩ = some x) (h1 : w.cell? ⟨bg, f, none⟩ = some y) (h2 : w.frozen? ⟨bg, f, none⟩ = false) (t : Touch (fun _ => False) w wa) (g : wa.grownBy w' r) (n1 : r ≠ some tb) (n2 : r ≠ some bg) :
    w'.cell? ⟨tb, 0, none⟩ = some x ∧ w'.cell? ⟨bg, f, none⟩ = some y ∧ w'.frozen? ⟨bg, f, none⟩ = false :=
  keep3 h0 h1 h2 ((g.block _ (Nat.lt_of_lt_of_le ht t.size) (fun e => n1 e.symm)).trans (t.block _ ht id)) ((g.block _ (Nat.lt_of_lt_of_le hb t.size) (fun e => n2 e.symm)).trans (t.block _ hb id))
theorem news_new {w wa : World} {t : TypeId} {l : List Value} {b : Nat} (ta : Touch (fun _ => False) (w.alloc (.cells l.toArray t)) wa) (hb : b = w.heap.size) : ∀ (j : Nat) (u : Value), l[j]? = some u → wa.cell? ((⟨b, 0, none⟩ : Addr).add j) = some u := by
  intro j u hj
  subst hb
  rw [add_g, ta.cell (p := ⟨w.heap.size, j, none⟩) (by simp) id, ← add_g]
  exact row_new w l t j u hj
theorem Ly.far {W0 w : World} {tb bg ch n : Nat} {vs : Nat → Value} {B : Nat → List Int} {C : Nat → Int} (h : Ly W0 w tb bg ch n vs B C) {q : Nat} (hq : W0.heap.size ≤ q) (hn : tb ≠ q ∧ bg ≠ q ∧ ch ≠ q ∧ ∀ i, i < n → ∀ g, (vs i).ownBlock = some g → g ≠ q) (i : Nat) (x : Value) : Ly W0 (w.setCell ⟨q, i, none⟩ x) tb bg ch n vs B C := by
  obtain ⟨c1, s1, h1, k1⟩ := h.bgk
  obtain ⟨c2, s2, h2, k2⟩ := h.chk
  exact ⟨(Below.heap_setCell _ _ _ _ hn.1).trans h.tbk, ⟨c1, s1, (Below.heap_setCell _ _ _ _ hn.2.1).trans h1, k1⟩, ⟨c2, s2, (Below.heap_setCell _ _ _ _ hn.2.2.1).trans h2, k2⟩, fun j hj => own_keep (h.own j hj) (fun g hg => Below.heap_setCell _ _ _ _ (hn.2.2.2 j hj g hg)), h.new, h.dis, h.n0, h.touch.setCell (p := ⟨q, i, none⟩) (fun hp => absurd hp (Nat.not_lt.2 hq)) _⟩
theorem beg_next {l fs : List R2} {x : R2} {f k : Nat} (hk : fs.length = k) (ho : okS l x = true) (hf : (f : Int) = fstL l x) (i : Nat) : begF l (fs ++ [x]) i = upd (begF l fs) f (begF l fs f ++ [(k : Int)]) i := by
  rw [begF_snoc, ← hf, ho, hk]
  unfold upd
  by_cases h : i = f
  · subst h; simp
  · rw [if_neg h, if_neg (fun e => h (by have := e.2; omega)), List.append_nil]
theorem chg_next {l fs : List R2} {x : R2} {f g : Nat} (ho : okS l x = true) (hf : (f : Int) = fstL l x) (hg : (g : Int) = lstL l x) (hfg : f ≤ g) (i : Nat) : chgF l (fs ++ [x]) i = upd (upd (chgF l fs) f (chgF l fs f + 1)) (g + 1) (chgF l fs (g + 1) - 1) i := by
  rw [chgF_snoc]
  unfold dl upd
  rw [← hf, ← hg, ho]
  by_cases h : i = g + 1
  · subst h
    rw [if_pos rfl, if_pos rfl, if_neg (by omega), if_pos (by omega)]
    omega
  · rw [if_neg h, if_pos rfl]
    by_cases h2 : i = f
    · subst h2
      rw [if_pos rfl, if_pos rfl, if_neg (by omega)]
      omega
    · rw [if_neg h2, if_neg (by omega), if_neg (by omega)]
      omega
theorem beg_skip {l fs : List R2} {x : R2} (ho : ¬ okS l x = true) (i : Nat) : begF l (fs ++ [x]) i = begF l fs i := by
  rw [begF_snoc, if_neg (fun e => ho e.1), List.append_nil]
theorem chg_skip {l fs : List R2} {x : R2} (ho : ¬ okS l x = true) (i : Nat) : chgF l (fs ++ [x]) i = chgF l fs i := by
  rw [chgF_snoc]
  unfold dl
  rw [if_neg ho, Int.add_zero]
theorem own_keepT {w w' : World} {base n : Nat} {e : TypeId} {sz : Nat} {v : Value} {xs : List Value} (h : w.ownsRow base e sz v n xs) (t : Touch (fun _ => False) w w') : w'.ownsRow base e sz v n xs :=
  own_keep h (fun g hg => t.block g (lt_of_block (own_blk h hg).choose_spec) id)
theorem wp_region_class {P : Program} {id : Nat} {Q : Exit → Act → World → Prop} {a : Act} {w : World} {l : List Oper} (C : World → Prop) (hm : P.follows .mixedOrders = true) (hB : Region.lexB .any l.toArray = true) (hC : C w.drew)
    (h : wpQuiet P l.toArray C (fun a' => ∀ w', C w' → Q .normal a' w') l a) : (Code.region id l.toArray true).wp P Q a w :=
  wp_region_quiet (C := C) hm hB hC (by simpa using h)

set_option maxRecDepth 100000 in
set_option maxHeartbeats 8000000 in
theorem lay_any (a1 a2 : Option Addr) (c1 c2 : Nat) (l fs : List R2) (w : World) (hl : Rg w a1 l) (hr : Rise l) (hb : l.length ≤ 4194304) (hf : Rg w a2 fs) (hfb : fs.length ≤ 4194304) (hin : ∀ x ∈ fs, 0 ≤ x.2 ∧ x.2 ≤ 4194304) :
    Calls Try.prog 19 #[.slice a1 l.length c1, .slice a2 fs.length c2] w fun e w' => ∃ tb bg ch vs, e = .returned (.agg #[.slice (some ⟨bg, 0, none⟩) l.length l.length, .slice (some ⟨ch, 0, none⟩) (l.length + 1) (l.length + 1)]) ∧ Ly w w' tb bg ch l.length vs (begF l fs) (chgF l fs) := by
  obtain ⟨i0, hi3, hz0, hz1, hz2⟩ := info_parts info3
  have M1 := mk51 l.length hb
  have M2 := mk39 l.length hb
  have HL := hid hl
  have HF := hid hf
  have HR := hid hr
  have HIN := hid hin
  clear hl hf hr hin
  go_enter Try.func19, Try.ntmps19
  go_upto_region 1 with fail
  go_cut [5] (fun v5 wd => ∃ tb bg ch, v5 = .pointer (some ⟨tb, 0, none⟩) ∧ Ly (w.alloc (.cells #[.slice none 0 0, .slice none 0 0] 53)) wd tb bg ch l.length (fun _ => .slice none 0 0) (fun _ => []) (fun _ => 0))
  case first =>
    go_region
    all_goals
      go_wp2
      go_meet
      case rel => exact ⟨_, _, _, rfl, ly_start (by first | exact al1 _ _ _ _ _ | exact al2 _ _ _ _ _ | exact al3 _ _ _ _ _) (by first | exact al1 _ _ _ _ _ | exact al2 _ _ _ _ _ | exact al3 _ _ _ _ _) (by first | exact al1 _ _ _ _ _ | exact al2 _ _ _ _ _ | exact al3 _ _ _ _ _) (by simp <;> omega) (((((Touch.refl _ _).alloc _).alloc _).alloc _).drew)⟩
  obtain ⟨tb, bg, ch, rfl, hly⟩ := hcut
  clear M1 M2
  have T0 := hid ((Touch.refl (fun _ => False) w).alloc (.cells #[.slice none 0 0, .slice none 0 0] 53))
  have R0 := hid (two_new (w := w) (.slice none 0 0) (.slice none 0 0) 53)
  have LY := hid (hly.same (B' := begF l (fs.take 0)) (C' := chgF l (fs.take 0)) (fun _ _ => rfl) (fun _ _ => rfl))
  clear hly
  obtain ⟨W0, hW0⟩ : ∃ W0, W0 = w.alloc (.cells #[.slice none 0 0, .slice none 0 0] 53) := ⟨_, rfl⟩
  rw [← hW0] at T0 R0 LY
  obtain ⟨q0, hq0⟩ : ∃ q, q = w.heap.size := ⟨_, rfl⟩
  rw [← hq0] at R0 ⊢
  have HQ0 := hid (Nat.le_of_eq hq0.symm)
  clear hW0 hq0
  go_wp2_with fail
  go_loopg [20] fs.length (fun gk i wr => ∃ (k : Nat) (vs : Nat → Value), k + gk = fs.length ∧ i = .int .i64 (k : Nat) ∧ Ly W0 wr tb bg ch l.length vs (begF l (fs.take k)) (chgF l (fs.take k)))
  case atStart => exact ⟨0, _, by omega, rfl, LY.out⟩
  case round =>
    obtain ⟨k, vs, hk, rfl, hly⟩ := hrel
    replace LY := hid hly
    clear hly
    by_cases hlt : k < fs.length
    · obtain ⟨b, o, ha, hbl, hcell⟩ : ∃ b o, a2 = some ⟨b, o, none⟩ ∧ b < wr.heap.size ∧ ∀ i (h : i < fs.length), wr.cell? ⟨b, o + i * 2, none⟩ = some (.int .i64 (fs[i]).1) ∧ wr.cell? ⟨b, o + i * 2 + 1, none⟩ = some (.int .i64 (fs[i]).2) := by
        rcases (HF.out.new T0.out).new LY.out.touch with h | h
        · rw [h] at hlt; simp at hlt
        · exact h
      subst ha
      obtain ⟨d0, d1⟩ := hcell k hlt
      have HXI := hid (HIN.out fs[k] (List.getElem_mem _))
      obtain ⟨x, hx⟩ : ∃ x, x = fs[k] := ⟨_, rfl⟩
      have HT := hid (show fs.take (k + 1) = fs.take k ++ [x] from by rw [hx, List.take_succ_eq_append_getElem hlt])
      rw [← hx] at d0 d1 HXI
      obtain ⟨y, z⟩ := x
      dsimp only at d0 d1 HXI
      have hkI : (k : Int) < (fs.length : Int) := by omega
      clear hcell hx
      go_upto_region 5 with fail
      have TA := hid ((Touch.refl (fun _ => False) wr).alloc (.cells #[.int .i64 y, .int .i64 z] 27))
      have BX := hid (two_new (w := wr) (.int .i64 y) (.int .i64 z) 27)
      replace LY := hid (LY.out.still TA.out)
      clear d0 d1 TA
      obtain ⟨w5, hw5⟩ : ∃ w5, w5 = wr.alloc (.cells #[.int .i64 y, .int .i64 z] 27) := ⟨_, rfl⟩
      obtain ⟨q5, hq5⟩ : ∃ q, q = wr.heap.size := ⟨_, rfl⟩
      rw [← hw5, ← hq5] at BX
      rw [← hw5] at LY
      rw [← hw5, ← hq5]
      clear hw5 hq5
      have CELL := hid (show ∀ w', Touch (fun _ => False) w5 w' → w'.cell? ⟨q5, 0, none⟩ = some (.int .i64 y) ∧ w'.cell? ⟨q5, 1, none⟩ = some (.int .i64 z) from fun w' t => ⟨(t.cell (p := ⟨q5, 0, none⟩) (lt_of_block BX.out) id).trans (cell_two0 BX.out), (t.cell (p := ⟨q5, 1, none⟩) (lt_of_block BX.out) id).trans (cell_two1 BX.out)⟩)
      have KA := hid (fun (p : Int) (w' : World) (t : Touch (fun _ => False) w5 w') => at_any a1 c1 l p w' (((HL.out.new T0.out).new LY.out.touch).new t) HR.out hb)
      have KP := hid (fun (w' : World) => lastPlace_any y z w' HXI.out)
      obtain ⟨f0, hf0⟩ : ∃ f, f = fstL l (y, z) := ⟨_, rfl⟩
      obtain ⟨g0, hg0⟩ : ∃ g, g = lstL l (y, z) := ⟨_, rfl⟩
      have HF0 := hid hf0
      have HG0 := hid hg0
      clear hf0 hg0
      go_cut [8, 9] (fun v8 v9 wd => v8 = .int .i64 f0 ∧ v9 = .int .i64 g0 ∧ Touch (fun _ => False) w5 wd)
      case first =>
        refine wp_region_class (fun w' => Touch (fun _ => False) w5 w') (by kernel_rfl) (by kernel_rfl) (Touch.refl _ w5).drew ?_
        go_big_quiet_want
        go_big_quiet_op
        go_big_quiet_on
        go_big_quiet_want
        go_big_quiet_op
        refine ⟨_, fun _ _ => rfl, ?_⟩
        go_big_quiet_on
        go_big_quiet_want
        go_big_quiet_op
        refine ⟨.int .i64 y, fun w hw => ?_, ?_⟩
        · obtain ⟨g0, g1⟩ := CELL.out w hw
          go_simp
        go_big_quiet_on
        go_big_quiet_want
        go_big_quiet_op
        refine ⟨.int .i64 f0, fun w hw => (KA.out y w hw).mono (fun _ _ hh => ⟨by rw [HF0.out]; exact hh.1, hw.trans hh.2 (fun _ _ e => e)⟩), ?_⟩
        go_big_quiet_on
        go_big_quiet_want
        go_big_quiet_op
        go_big_quiet_on
        go_big_quiet_want
        go_big_quiet_op
        refine ⟨.agg #[.int .i64 y, .int .i64 z], fun w hw => ?_, ?_⟩
        · obtain ⟨g0, g1⟩ := CELL.out w hw
          go_simp
        go_big_quiet_on
        go_big_quiet_want
        go_big_quiet_op
        refine ⟨.int .i64 (lastP (y, z)), fun w hw => (KP.out w).mono (fun _ _ hh => ⟨hh.1, hw.trans hh.2 (fun _ _ e => e)⟩), ?_⟩
        go_big_quiet_on
        go_big_quiet_want
        go_big_quiet_op
        refine ⟨.int .i64 g0, fun w hw => (KA.out (lastP (y, z)) w hw).mono (fun _ _ hh => ⟨by rw [HG0.out]; exact hh.1, hw.trans hh.2 (fun _ _ e => e)⟩), ?_⟩
        go_big_quiet_on
        go_big_quiet_want
        go_big_quiet_op
        go_big_quiet_on
        go_big_quiet_want
        go_big_quiet_op
        go_big_quiet_on
        refine wpQuiet_nil ?_
        intro wq TQ
        go_wp2
        go_meet
        case rel => exact ⟨rfl, rfl, TQ⟩
      obtain ⟨rfl, rfl, tq⟩ := hcut
      replace LY := hid (LY.out.still tq)
      clear CELL KA KP tq BX
      have hc1 := cnt_le l y
      have hc2 := cnt_le l (lastP (y, z))
      by_cases hok : 0 ≤ f0 ∧ f0 ≤ g0
      · have OKS := hid (show okS l (y, z) = true from decide_eq_true (by rw [← HF0.out, ← HG0.out]; exact hok))
        have hfl : f0 < l.length := by rw [HF0.out]; show ((cnt l y : Nat) : Int) - 1 < _; omega
        have hgl : g0 < l.length := by rw [HG0.out]; show ((cnt l (lastP (y, z)) : Nat) : Int) - 1 < _; omega
        obtain ⟨f, rfl⟩ : ∃ f : Nat, f0 = f := ⟨f0.toNat, by omega⟩
        obtain ⟨g, rfl⟩ : ∃ g : Nat, g0 = g := ⟨g0.toNat, by omega⟩
        have hfl' : f < l.length := by omega
        have hgl' : g < l.length := by omega
        have hfg : (f : Int) ≤ (g : Int) := hok.2
        clear hok hc1 hc2
        go_upto_region 7 with fail
        obtain ⟨t0, t1, tB, tC, fB, fC⟩ := LY.out.cells
        have e0 := tB f hfl'
        have e1 := fB f
        have hbl2 := begF_len l (fs.take k) f
        rw [List.length_take] at hbl2
        obtain ⟨av, cv, hv⟩ := own_shape (LY.out.own f hfl')
        rw [hv] at e0
        have HV := hid hv
        clear hv tB tC fB fC
        go_cut [] (fun wd => ∃ vs', Ly W0 wd tb bg ch l.length vs' (upd (begF l (fs.take k)) f (begF l (fs.take k) f ++ [(k : Int)])) (chgF l (fs.take k)))
        case first =>
          have HLT := hid LY.out.lt
          have HNE := hid (show (Value.slice av (begF l (fs.take k) f).length cv).ownBlock ≠ some tb ∧ (Value.slice av (begF l (fs.take k) f).length cv).ownBlock ≠ some bg from by
            rw [← HV.out]
            exact ⟨fun e => (LY.out.ne.2.2.2 f hfl' tb e).1 rfl, fun e => (LY.out.ne.2.2.2 f hfl' bg e).2.1 rfl⟩)
          have OWN := hid (show wc.ownsRow 0 3 1 (.slice av (begF l (fs.take k) f).length cv) (begF l (fs.take k) f).length (encI (begF l (fs.take k) f)) from by rw [← HV.out]; exact LY.out.own f hfl')
          have t0a : (wc.alloc (.cells #[.int .i64 (k : Nat)] 3)).cell? ⟨tb, 0, none⟩ = some (.slice (some ⟨bg, 0, none⟩) l.length l.length) := (keep3T HLT.out.1 HLT.out.2.1 t0 e0 e1 ((Touch.refl _ _).alloc _)).1
          have e0a : (wc.alloc (.cells #[.int .i64 (k : Nat)] 3)).cell? ⟨bg, f, none⟩ = some (.slice av (begF l (fs.take k) f).length cv) := (keep3T HLT.out.1 HLT.out.2.1 t0 e0 e1 ((Touch.refl _ _).alloc _)).2.1
          go_region_law
            ((refine step_append_own _ (by rfl) _ _ _ (by rfl) 0 3 i0 _ 1 8 Try.underlying39 hi3 hz0 hz1 hz2 rfl (by decide) (.slice av (begF l (fs.take k) f).length cv) (begF l (fs.take k) f).length (encI (begF l (fs.take k) f)) (by rfl) (own_keepT OWN.out (by repeat (first | exact Touch.refl _ _ | refine Touch.alloc ?_ _ | refine Touch.drew ?_ | refine Touch.drewN ?_ _))) _ 1 1 [.int .i64 k] (by rfl) (by rfl) (news_new (by repeat (first | exact Touch.refl _ _ | refine Touch.alloc ?_ _ | refine Touch.drew ?_ | refine Touch.drewN ?_ _)) (by simp)) (by intro u hu; simp at hu; subst hu; rfl) (by unfold maxLen; omega) (by omega) (Nat.zero_le _) _ rfl ?_
              intro v4 w4 hown hgrow hat
              obtain ⟨a4, k4, hv4⟩ := own_shape hown
              subst hv4
              have ⟨n0, n1, n2⟩ := (keep3G HLT.out.1 HLT.out.2.1 t0 e0 e1 (by repeat (first | exact Touch.refl _ _ | refine Touch.alloc ?_ _ | refine Touch.drew ?_ | refine Touch.drewN ?_ _)) hgrow HNE.out.1 HNE.out.2)
              have G4 := hid hgrow
              have A4 := hid hat
              have O4 := hid hown
              clear hown hat hgrow))
          all_goals
            clear n0 n1 n2 t0a e0a t0 t1 e0 e1
            go_wp2
            go_meet
            case rel =>
              refine ⟨_, LY.out.app hfl' (wa := (wc.alloc (.cells #[.int .i64 (k : Nat)] 3)).drew) ((Touch.refl _ _).alloc _).drew O4.out (by rw [HV.out]; exact G4.out) ?_⟩
              rcases A4.out with e | e
              · exact .inl (by rw [HV.out]; exact e)
              · exact .inr ⟨_, e, by simp [World.drew]⟩
        obtain ⟨vs', hly⟩ := hcut
        replace LY := hid hly
        clear hly t0 t1 e0 e1 HV hbl2
        obtain ⟨t0, t1, tB, tC, fB, fC⟩ := LY.out.cells
        have e0 := tC f (by omega)
        have e1 := fC f
        have hbd := chgF_bound l f (fs.take k)
        rw [List.length_take] at hbd
        obtain ⟨cf, hcf⟩ : ∃ cf, cf = chgF l (fs.take k) f := ⟨_, rfl⟩
        rw [← hcf] at e0 hbd
        have HCF := hid hcf
        have hbd' : -4194304 ≤ cf ∧ cf ≤ 4194304 := by omega
        clear hcf tB tC fB fC t0 hbd
        go_upto_region 9 with fail
        have L2 := hid (LY.out.put (i := f) (by omega) (cf + 1))
        clear t1 e0 e1 LY
        generalize wc.setCell ⟨ch, f, none⟩ (.int .i64 (cf + 1)) = w8 at *
        obtain ⟨t0, t1, tB, tC, fB, fC⟩ := L2.out.cells
        have hgf : g + 1 ≠ f := by omega
        have e0 := tC (g + 1) (by omega)
        have e1 := fC (g + 1)
        unfold upd at e0
        rw [if_neg hgf] at e0
        have hbd := chgF_bound l (g + 1) (fs.take k)
        rw [List.length_take] at hbd
        obtain ⟨cg, hcg⟩ : ∃ cg, cg = chgF l (fs.take k) (g + 1) := ⟨_, rfl⟩
        rw [← hcg] at e0 hbd
        have HCG := hid hcg
        have hbd2 : -4194304 ≤ cg ∧ cg ≤ 4194304 := by omega
        clear hcg tB tC fB fC t0 hbd hgf
        have htn : ((g : Int) + 1).toNat = g + 1 := by omega
        have L3 := hid (L2.out.put (i := g + 1) (by omega) (cg - 1))
        go_wp2_with fail
        go_roundg (gk - 1)
        case measure => omega
        case rel =>
          refine ⟨k + 1, vs', by omega, by go_num, ?_⟩
          rw [HT.out]
          refine L3.out.same (fun i hi => ?_) (fun i hi => ?_)
          · exact beg_next (by rw [List.length_take]; omega) OKS.out HF0.out i
          · rw [chg_next OKS.out HF0.out HG0.out (by omega) i, HCF.out, HCG.out]
      · have NOK := hid (show ¬ okS l (y, z) = true from fun e => hok (by have := of_decide_eq_true e; rw [← HF0.out, ← HG0.out] at this; exact this))
        have LN := hid (show Ly W0 wc tb bg ch l.length vs (begF l (fs.take (k + 1))) (chgF l (fs.take (k + 1))) from by
          rw [HT.out]
          exact LY.out.same (fun i _ => beg_skip NOK.out i) (fun i _ => chg_skip NOK.out i))
        by_cases h1 : f0 < 0
        · go_wp2
          go_roundg (gk - 1)
          case measure => omega
          case rel => exact ⟨k + 1, vs, by omega, by go_num, LN.out⟩
        · have h2 : g0 < f0 := by omega
          go_wp2
          go_roundg (gk - 1)
          case measure => omega
          case rel => exact ⟨k + 1, vs, by omega, by go_num, LN.out⟩
    · obtain rfl : k = fs.length := by omega
      rw [List.take_length] at LY
      have rq := (LY.out.touch.block q0 (lt_of_block R0.out) id).trans R0.out
      obtain ⟨t0, t1, tB, tC, fB, fC⟩ := LY.out.cells
      have r0 := cell_two0 rq
      have r1 := cell_two1 rq
      have rf0 := free_two (i := 0) rq
      have rf1 := free_two (i := 1) rq
      have RQ := hid rq
      clear tB tC fB fC rq
      go_wp2
      refine bodyPost_ret (results_c rfl _ _ q0 53 _ (0, 0) _ rfl (two_set1 (two_set0 RQ.out)) Try.underlying53 rfl (by kernel_rfl)) rfl ⟨tb, bg, ch, vs, rfl, ?_⟩
      have hlq := lt_of_block R0.out
      have hn0 := LY.out.n0
      have hne : tb ≠ q0 ∧ bg ≠ q0 ∧ ch ≠ q0 ∧ ∀ i, i < l.length → ∀ g, (vs i).ownBlock = some g → g ≠ q0 := ⟨by omega, by omega, by omega, fun i hi g hg => by have := (LY.out.new i hi g hg).1; omega⟩
      exact ((LY.out.base T0.out).far HQ0.out hne 0 _).far HQ0.out hne 1 _
end Go.Proofs.Ytaidcapflcobiaa

/- A statement that draws its order, within a round of a loop over a function; condition: it defers nothing. -/
namespace Go.Proofs.Ytaidcapflcobiaa
open Go.RowKit Go.Shelf

def noDefer (ops : Array Oper) : Bool := ops.toList.all fun o => match o.op with | .defer _ => false | _ => true
theorem noDefer_at {ops : Array Oper} (h : noDefer ops = true) {i : Nat} {o : Oper} (ho : ops[i]? = some o) : ∀ c, o.op ≠ .defer c := by
  intro c hc
  have hm : o ∈ ops.toList := by
    rw [← Array.getElem?_toList] at ho
    exact List.mem_of_getElem? ho
  have := List.all_eq_true.1 h o hm
  rw [hc] at this
  cases this
theorem wpOpIn_round {l n : Nat} {P : Program} {ops : Array Oper} {Q : Exit → Act → World → Prop} (hd : noDefer ops = true) {i : Nat} {K : Act → World → Prop} {a : Act} {w : World} (h : wpOpIn Fence.wide n P ops Q i K a w) : wpOpIn (Fence.wide.inRound l) n P ops Q i K a w := by
  unfold wpOpIn at *
  cases ho : ops[i]? with
  | none => rw [ho] at h; exact h
  | some o =>
    rw [ho] at h
    dsimp only at h ⊢
    split
    · rename_i hw
      rw [if_pos hw] at h
      unfold Oper.wpIn at *
      refine ⟨h.1, ?_⟩
      have h2 := h.2
      rw [Oper.semAt_plain _ _ _ (noDefer_at hd ho)] at h2 ⊢
      generalize (execOp a.eval o).run P w = r at *
      cases r with
      | ok x w' => cases x <;> exact h2
      | halt x w' => cases x <;> exact h2
    · rename_i hw
      rw [if_neg hw] at h
      exact h
theorem wpAnyIn_round {l n : Nat} {P : Program} {md : Region.Mode} {ops : Array Oper} {Q : Exit → Act → World → Prop} (hd : noDefer ops = true) : ∀ (fuel : Nat) (listed : Array Bool) (a : Act) (w : World), wpAnyIn Fence.wide n P md ops Q fuel listed a w → wpAnyIn (Fence.wide.inRound l) n P md ops Q fuel listed a w
  | 0, _, _, _, h => h
  | fuel + 1, _, _, _, h => ⟨h.1, fun i hi => wpOpIn_round hd (wpOpIn_mono (fun a w => wpAnyIn_round hd fuel _ a w) (h.2 i hi))⟩
theorem wpIn_region_round {l n id : Nat} {P : Program} {ops : Array Oper} {Q : Exit → Act → World → Prop} {a : Act} {w : World} (hm : P.follows .mixedOrders = true) (hd : noDefer ops = true)
    (h : wpAnyIn Fence.wide n P .any ops Q ops.size (Array.replicate ops.size false) a w.drew) : (Code.region id ops true).wpIn (Fence.wide.inRound l) n P Q a w :=
  wpIn_region_any hm (wpAnyIn_round hd _ _ _ _ h)
end Go.Proofs.Ytaidcapflcobiaa
