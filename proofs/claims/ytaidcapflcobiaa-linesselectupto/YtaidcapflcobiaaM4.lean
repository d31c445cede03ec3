/- Texts of this proof, one behind the other: what each says stands ahead of it. -/
import Derived.Test.YtaidcapflcobiaaM3
/- Select: the lines that spans touch, or don't; conditions: all fits into memory. -/
namespace Go.Proofs.Ytaidcapflcobiaa
open Go.RowKit Go.Shelf

attribute [local go_sem] Oper.semAt_some

theorem info41 : (Try.prog.info? 41).map (fun i => (i.zero, i.size, i.bytes)) = some (some (.agg #[.int .i64 0, .int .i64 0, .int .i64 0, .slice none 0 0]), 4, 48) := by kernel_rfl

theorem stepIn_append_own {n' : Nat} {P : Program} (w : World) {ops : Array Oper} {o : Oper} {a : Act} {K : Act → World → Prop} {Q : Exit → Act → World → Prop} {E : Prop} (hgd : o.guard = none) (s x : Operand) (t : TypeId)
    (ho : o.op = .call { callee := .builtin .append, args := #[s, x], argTypes := #[t, t] })
    (base : Nat) (e : TypeId) (i : TypeInfo) (z : Value) (size bytes : Nat) (ht : P.underlying t = some (.slice e)) (hi : P.info? e = some i) (hz : i.zero = some z)
    (hsize : i.size = size) (hby : i.bytes = bytes) (hzs : z.cells.size = size) (hsz : 0 < size)
    (v : Value) (n : Nat) (xs : List Value) (hs : a.eval s = v) (hown : w.ownsRow base e size v n xs)
    (ad : Addr) (m c : Nat) (news : List Value) (hx : a.eval x = .slice (some ad) m c) (hl : news.length = m * size) (hnews : ∀ j u, news[j]? = some u → w.cell? (ad.add j) = some u) (h1 : ∀ u ∈ news, u.oneCell' = true)
    (h63 : n + m ≤ maxLen) (hbytes : (n + m) * bytes ≤ 140737488355328) (hbase : base ≤ w.heap.size)
    (h : ∀ v' w', w'.ownsRow base e size v' (n + m) (xs ++ news) → w.grownBy w' v.ownBlock → K (a.put o.dst v') w') :
    if Region.wanted o (yielded ops a.tmps) = true then Oper.wpIn Fence.wide n' P o a w K Q else E := by
  have hw : Region.wanted o (yielded ops a.tmps) = true := by simp [Region.wanted, hgd]
  rw [if_pos hw]
  obtain ⟨v', w', hr, h2, h3, _⟩ := run_append_own_at (P := P) w base t o.type e i z size bytes ht hi hz hsize hby hzs hsz v n xs hown ad m c news hl hnews h1 h63 hbytes hbase
  unfold Oper.wpIn
  refine ⟨?_, ?_⟩
  · simp [Oper.about, ho, resolve, Target.leads, Sem.run_pure]
  · rw [Oper.semAt_plain Fence.wide _ _ (by rw [ho]; intro c hc'; cases hc')]
    unfold execOp
    simp only [ho, resolve, invoke, builtin, Sem.run_bind, Sem.run_pure, Result.andThen_ok, List.map_toArray, List.map_cons, List.map_nil, hs, hx, hr]
    exact h v' w' h2 h3
theorem keepsO_app {W wa w1 : World} {base n : Nat} {e : TypeId} {sz : Nat} {v : Value} {xs : List Value} (ka : KeepsOthers W wa) (hrow : wa.ownsRow base e sz v n xs) (hg : wa.grownBy w1 v.ownBlock) (p : Addr) (x : Value) : KeepsOthers W (w1.setCell p x) := by
  refine (ka.trans (KeepsOthers.of_grownBy hg fun j o ej hj => ?_)).trans (KeepsOthers.setCell _ _ _)
  obtain ⟨cs, hc⟩ := own_blk hrow ej
  rw [hc] at hj
  cases hj
  rfl

/-- The count of spans and the lines that are chosen, line by line. -/
def stStep (l fs : List R2) (inv : Bool) (s : Int × List (Fin l.length)) (i : Fin l.length) : Int × List (Fin l.length) :=
  (s.1 + chgF l fs i.1, s.2 ++ if (decide (0 < s.1 + chgF l fs i.1) != inv) = true then [i] else [])
def stF (l fs : List R2) (inv : Bool) (pre : List (Fin l.length)) : Int × List (Fin l.length) := pre.foldl (stStep l fs inv) (0, [])
theorem stF_snoc (l fs : List R2) (inv : Bool) (pre : List (Fin l.length)) (i : Fin l.length) : stF l fs inv (pre ++ [i]) = stStep l fs inv (stF l fs inv pre) i := by
  simp [stF]
def encLn (l : List R2) (vs : Nat → Value) (i : Fin l.length) : List Value := [.int .i64 ((i.1 : Int) + 1), .int .i64 (l[i.1]).1, .int .i64 (l[i.1]).2, vs i.1]
def flatLn (l : List R2) (vs : Nat → Value) (s : List (Fin l.length)) : List Value := s.flatMap (encLn l vs)
theorem fold_bound (l fs : List R2) (inv : Bool) : ∀ (pre : List (Fin l.length)) (s : Int × List (Fin l.length)), s.1 - (fs.length : Int) * pre.length ≤ (pre.foldl (stStep l fs inv) s).1 ∧ (pre.foldl (stStep l fs inv) s).1 ≤ s.1 + (fs.length : Int) * pre.length ∧ (pre.foldl (stStep l fs inv) s).2.length ≤ s.2.length + pre.length
  | [], s => by simp
  | i :: pre, s => by
    have hb := chgF_bound l i.1 fs
    have ih := fold_bound l fs inv pre (stStep l fs inv s i)
    rw [List.foldl_cons, List.length_cons]
    have e : (fs.length : Int) * ((pre.length + 1 : Nat) : Int) = (fs.length : Int) * pre.length + fs.length := by simp [Int.mul_add]
    rw [e]
    have h2 : (stStep l fs inv s i).2.length ≤ s.2.length + 1 := by
      unfold stStep
      dsimp only
      split <;> simp
    have h1 : (stStep l fs inv s i).1 = s.1 + chgF l fs i.1 := rfl
    omega
theorem stF_bound (l fs : List R2) (inv : Bool) (pre : List (Fin l.length)) (hp : pre.length ≤ 2097152) (hf : fs.length ≤ 2097152) : -4398046511104 ≤ (stF l fs inv pre).1 ∧ (stF l fs inv pre).1 ≤ 4398046511104 ∧ (stF l fs inv pre).2.length ≤ pre.length := by
  have h := fold_bound l fs inv pre (0, [])
  have h2 : (fs.length : Int) * pre.length ≤ 2097152 * 2097152 := by
    have := Nat.mul_le_mul hf hp
    have e : ((fs.length * pre.length : Nat) : Int) = (fs.length : Int) * pre.length := Int.natCast_mul _ _
    rw [← e]
    omega
  unfold stF
  simp only [List.length_nil, Nat.zero_add] at h
  omega

/-- What lies there between two rounds: o spans are over the line, the lines s are chosen. -/
structure SelJ (w : World) (qi qc qt qo qx tb bg ch : Nat) (vs : Nat → Value) (d : ByteArray) (fs : List R2) (inv : Bool) (o : Int) (s : List (Fin (lns d).length)) (W : World) : Prop where
  bi : W.heap[qi]? = some (.cells #[.bool inv] 4 (0, 0))
  bt : W.heap[qt]? = some (.cells #[.slice (some ⟨bg, 0, none⟩) (lns d).length (lns d).length, .slice (some ⟨ch, 0, none⟩) ((lns d).length + 1) ((lns d).length + 1)] 53 (0, 0))
  bo : W.heap[qo]? = some (.cells #[.int .i64 o] 3 (0, 0))
  bx : W.heap[qx]? = some (.cells #[.string d] 9 (0, 0))
  bc : ∃ v, W.heap[qc]? = some (.cells #[v] 37 (0, 0)) ∧ W.ownsRow w.heap.size 41 4 v s.length (flatLn (lns d) vs s)
  ly : Ly w W tb bg ch (lns d).length vs (begF (lns d) fs) (chgF (lns d) fs)
def SelI (w : World) (qi qc qt qo qx tb bg ch : Nat) (vs : Nat → Value) (d : ByteArray) (fs : List R2) (inv : Bool) (pre : List (Fin (lns d).length)) (W : World) : Prop := SelJ w qi qc qt qo qx tb bg ch vs d fs inv (stF (lns d) fs inv pre).1 (stF (lns d) fs inv pre).2 W

theorem cells_stay {A B : World} {row : Option Nat} (hg : A.grownBy B row) (hr : ∀ r, row = some r → ∃ o, A.heap[r]? = some o ∧ o.isCells = false) {b : Nat} {cs : Array Value} {t : TypeId} {fr : Nat × Nat} (h : A.heap[b]? = some (.cells cs t fr)) : B.heap[b]? = A.heap[b]? := by
  refine hg.block b (lt_of_block h) (fun e => ?_)
  obtain ⟨o, ho, hc⟩ := hr b e.symm
  rw [h] at ho
  cases ho
  cases hc
theorem Ly.frame {W0 w w' : World} {tb bg ch n : Nat} {vs : Nat → Value} {B : Nat → List Int} {C : Nat → Int} (h : Ly W0 w tb bg ch n vs B C) (t : Touch (fun _ => False) W0 w') (k : ∀ (b : Nat) (cs : Array Value) (ty : TypeId), w.heap[b]? = some (Obj.cells cs ty (0, 0)) → (ty = 53 ∨ ty = 39 ∨ ty = 3) → w'.heap[b]? = w.heap[b]?) : Ly W0 w' tb bg ch n vs B C := by
  obtain ⟨c1, s1, h1, k1⟩ := h.bgk
  obtain ⟨c2, s2, h2, k2⟩ := h.chk
  exact ⟨(k _ _ _ h.tbk (.inl rfl)).trans h.tbk, ⟨c1, s1, (k _ _ _ h1 (.inr (.inl rfl))).trans h1, k1⟩, ⟨c2, s2, (k _ _ _ h2 (.inr (.inr rfl))).trans h2, k2⟩, fun i hi => own_keep (h.own i hi) (fun g hg => by
    obtain ⟨cs, hc⟩ := own_blk (h.own i hi) hg
    exact k _ _ _ hc (.inr (.inr rfl))), h.new, h.dis, h.n0, t⟩
theorem SelI.own {w : World} {qi qc qt qo qx tb bg ch N : Nat} {vs : Nat → Value} {d : ByteArray} {fs : List R2} {inv : Bool} (hN : w.heap.size ≤ N) : OwnFrom N (fun pre W => SelI w qi qc qt qo qx tb bg ch vs d fs inv pre W) := by
  rintro pre A B row hs hg hr
  have hr' : ∀ r, row = some r → ∃ o, A.heap[r]? = some o ∧ o.isCells = false := fun r e => (hr r e).2
  obtain ⟨v, hv, hrow⟩ := hs.bc
  refine ⟨(cells_stay hg hr' hs.bi).trans hs.bi, (cells_stay hg hr' hs.bt).trans hs.bt, (cells_stay hg hr' hs.bo).trans hs.bo, (cells_stay hg hr' hs.bx).trans hs.bx, ⟨v, (cells_stay hg hr' hv).trans hv, own_keep hrow (fun g hg' => ?_)⟩, hs.ly.frame ?_ (fun b cs ty hb _ => cells_stay hg hr' hb)⟩
  · obtain ⟨cs, hc⟩ := own_blk hrow hg'
    exact cells_stay hg hr' hc
  · exact hs.ly.touch.grown hg (fun k e hk => by have := (hr k e).1; omega)

theorem SelJ.still {w W W' : World} {qi qc qt qo qx tb bg ch : Nat} {vs : Nat → Value} {d : ByteArray} {fs : List R2} {inv : Bool} {o : Int} {s : List (Fin (lns d).length)} (h : SelJ w qi qc qt qo qx tb bg ch vs d fs inv o s W) (t : Touch (fun _ => False) W W') : SelJ w qi qc qt qo qx tb bg ch vs d fs inv o s W' := by
  obtain ⟨v, hv, hrow⟩ := h.bc
  exact ⟨(t.block _ (lt_of_block h.bi) id).trans h.bi, (t.block _ (lt_of_block h.bt) id).trans h.bt, (t.block _ (lt_of_block h.bo) id).trans h.bo, (t.block _ (lt_of_block h.bx) id).trans h.bx, ⟨v, (t.block _ (lt_of_block hv) id).trans hv, own_keepT hrow t⟩, h.ly.still t⟩
theorem ne_type {W : World} {a b : Nat} {cs cs' : Array Value} {t t' : TypeId} {f f' : Nat × Nat} (h : W.heap[a]? = some (.cells cs t f)) (k : W.heap[b]? = some (.cells cs' t' f')) (hn : t ≠ t') : a ≠ b := by
  rintro rfl
  rw [h] at k
  cases k
  exact hn rfl
theorem SelJ.put {w W : World} {qi qc qt qo qx tb bg ch : Nat} {vs : Nat → Value} {d : ByteArray} {fs : List R2} {inv : Bool} {o : Int} {s : List (Fin (lns d).length)} (h : SelJ w qi qc qt qo qx tb bg ch vs d fs inv o s W) (hq : w.heap.size ≤ qo) (far : tb ≠ qo ∧ bg ≠ qo ∧ ch ≠ qo ∧ ∀ i, i < (lns d).length → ∀ g, (vs i).ownBlock = some g → g ≠ qo) (o' : Int) : SelJ w qi qc qt qo qx tb bg ch vs d fs inv o' s (W.setCell ⟨qo, 0, none⟩ (.int .i64 o')) := by
  obtain ⟨v, hv, hrow⟩ := h.bc
  refine ⟨(Below.heap_setCell _ _ _ _ (ne_type h.bi h.bo (by decide))).trans h.bi, (Below.heap_setCell _ _ _ _ (ne_type h.bt h.bo (by decide))).trans h.bt, (show Boxed W qo 3 (.int .i64 o) from h.bo).set _, (Below.heap_setCell _ _ _ _ (ne_type h.bx h.bo (by decide))).trans h.bx, ⟨v, (Below.heap_setCell _ _ _ _ (ne_type hv h.bo (by decide))).trans hv, own_keep hrow (fun g hg => ?_)⟩, h.ly.far hq far 0 _⟩
  obtain ⟨cs, hc⟩ := own_blk hrow hg
  exact Below.heap_setCell _ _ _ _ (ne_type hc h.bo (by decide))
/-- A line is chosen. -/
theorem SelJ.app {w W wa w1 : World} {qi qc qt qo qx tb bg ch : Nat} {vs : Nat → Value} {d : ByteArray} {fs : List R2} {inv : Bool} {o : Int} {s : List (Fin (lns d).length)} (h : SelJ w qi qc qt qo qx tb bg ch vs d fs inv o s W) (hq : w.heap.size ≤ qc) {v v' : Value} {i : Fin (lns d).length} (hv : W.heap[qc]? = some (.cells #[v] 37 (0, 0))) (hrow : W.ownsRow w.heap.size 41 4 v s.length (flatLn (lns d) vs s)) (ta : Touch (fun _ => False) W wa)
    (hown : w1.ownsRow w.heap.size 41 4 v' (s.length + 1) (flatLn (lns d) vs s ++ encLn (lns d) vs i)) (hg : wa.grownBy w1 v.ownBlock) :
    SelJ w qi qc qt qo qx tb bg ch vs d fs inv o (s ++ [i]) (w1.setCell ⟨qc, 0, none⟩ v') := by
  have keep : ∀ (b : Nat) (cs : Array Value) (t : TypeId), W.heap[b]? = some (.cells cs t (0, 0)) → t ≠ 41 → w1.heap[b]? = W.heap[b]? := fun b cs t hb ht =>
    (hg.block b (Nat.lt_of_lt_of_le (lt_of_block hb) ta.size) (fun e => by
      obtain ⟨c2, h2⟩ := own_blk hrow e.symm
      exact ne_type hb h2 ht rfl)).trans (ta.block b (lt_of_block hb) id)
  have kc : w1.heap[qc]? = some (.cells #[v] 37 (0, 0)) := (keep _ _ _ hv (by decide)).trans hv
  have keep2 : ∀ (b : Nat) (cs : Array Value) (t : TypeId), W.heap[b]? = some (.cells cs t (0, 0)) → t ≠ 41 → t ≠ 37 → (w1.setCell ⟨qc, 0, none⟩ v').heap[b]? = W.heap[b]? := fun b cs t hb ht h7 =>
    (Below.heap_setCell _ _ _ _ (ne_type hb hv h7)).trans (keep b cs t hb ht)
  refine ⟨(keep2 _ _ _ h.bi (by decide) (by decide)).trans h.bi, (keep2 _ _ _ h.bt (by decide) (by decide)).trans h.bt, (keep2 _ _ _ h.bo (by decide) (by decide)).trans h.bo, (keep2 _ _ _ h.bx (by decide) (by decide)).trans h.bx, ⟨v', (show Boxed w1 qc 37 v from kc).set _, ?_⟩, h.ly.frame ?_ ?_⟩
  · have e : flatLn (lns d) vs (s ++ [i]) = flatLn (lns d) vs s ++ encLn (lns d) vs i := by simp [flatLn]
    rw [e, List.length_append]
    refine own_keep hown (fun g hg' => ?_)
    obtain ⟨cs, hc⟩ := own_blk hown hg'
    exact Below.heap_setCell _ _ _ _ (ne_type hc kc (by decide))
  · refine Touch.setCell ((h.ly.touch.trans ta (fun _ _ e => e)).grown hg (fun k e hk => ?_)) (p := ⟨qc, 0, none⟩) (fun hp => absurd hp (Nat.not_lt.2 hq)) _
    rcases hrow.2 with ⟨rfl, _⟩ | ⟨g, cap, cur, rfl, hb, _⟩
    · simp [Value.ownBlock] at e
    · obtain rfl : g = k := by simpa [Value.ownBlock] using e
      omega
  · rintro b cs ty hb (rfl | rfl | rfl)
    · exact keep2 _ _ _ hb (by decide) (by decide)
    · exact keep2 _ _ _ hb (by decide) (by decide)
    · exact keep2 _ _ _ hb (by decide) (by decide)

set_option maxRecDepth 100000 in
set_option maxHeartbeats 8000000 in
theorem select_in (d : ByteArray) (hd : d.size ≤ 2097152) (a2 : Option Addr) (c2 : Nat) (fs : List R2) (inv : Bool) (w : World) (hf : Rg w a2 fs) (hfb : fs.length ≤ 2097152) (hin : ∀ x ∈ fs, 0 ≤ x.2 ∧ x.2 ≤ 4194304) :
    CallsIn Fence.wide 5 Try.prog 13 #[.string d, .slice a2 fs.length c2, .bool inv] w fun e W' => ∃ v tb bg ch vs, e = .returned v ∧ W'.ownsRow w.heap.size 41 4 v (stF (lns d) fs inv (List.finRange (lns d).length)).2.length (flatLn (lns d) vs (stF (lns d) fs inv (List.finRange (lns d).length)).2) ∧ Ly w W' tb bg ch (lns d).length vs (begF (lns d) fs) (chgF (lns d) fs) := by
  obtain ⟨i0, hi, hz0, hz1, hz2⟩ := info_parts info41
  have hln := lns_len d
  have HF := hid hf
  have HIN := hid hin
  clear hf hin
  refine callsIn_of_wp_marks Try.func13 rfl trivial ?_ rfl
  simp only [Try.ntmps13, List.size_toArray, List.length_cons, List.length_nil, Nat.reduceAdd, Nat.reduceSub, Array.replicate_succ, Array.replicate_zero, List.push_toArray, List.append_toArray, List.nil_append, List.cons_append]
  gi_wp2
  have T0 := hid (((Touch.refl (fun _ => False) w).alloc (.cells #[.bool inv] 4)).alloc (.cells #[.slice none 0 0] 37))
  have BI := hid (show ((w.alloc (.cells #[.bool inv] 4)).alloc (.cells #[.slice none 0 0] 37)).heap[w.heap.size]? = some (.cells #[.bool inv] 4 (0, 0)) from (Boxed.new w 4 (.bool inv)).alloc _)
  have BC := hid (show ((w.alloc (.cells #[.bool inv] 4)).alloc (.cells #[.slice none 0 0] 37)).heap[w.heap.size + 1]? = some (.cells #[.slice none 0 0] 37 (0, 0)) from by have := Boxed.new (w.alloc (.cells #[.bool inv] 4)) 37 (.slice none 0 0); rw [World.size_alloc] at this; exact this)
  generalize (w.alloc (.cells #[.bool inv] 4)).alloc (.cells #[.slice none 0 0] 37) = w0 at *
  refine ⟨trivial, ?_⟩
  refine (callsIn_wide.2 (split_any d (by omega) w0)).mono ?_
  rintro e w1 ⟨a1, c1, rfl, hr1, _, _, t1⟩
  have T1 := hid (T0.out.trans t1 (fun _ _ e => e))
  have R1 := hid hr1
  replace BI := hid ((t1.block _ (lt_of_block BI.out) id).trans BI.out)
  replace BC := hid ((t1.block _ (lt_of_block BC.out) id).trans BC.out)
  clear t1 hr1 T0
  gi_wp2
  refine ⟨trivial, ?_⟩
  refine (callsIn_wide.2 (lay_any a1 a2 c1 c2 (lns d) fs w1 R1.out (lns_rise d) (by omega) (HF.out.new T1.out) (by omega) HIN.out)).mono ?_
  rintro e w2 ⟨tb, bg, ch, vs, rfl, hly⟩
  have L2 := hid (hly.base T1.out)
  replace BI := hid ((hly.touch.block _ (lt_of_block BI.out) id).trans BI.out)
  replace BC := hid ((hly.touch.block _ (lt_of_block BC.out) id).trans BC.out)
  clear hly R1 T1
  gi_wp2
  have FAR := hid (show tb ≠ w2.heap.size + 1 ∧ bg ≠ w2.heap.size + 1 ∧ ch ≠ w2.heap.size + 1 ∧ ∀ i, i < (lns d).length → ∀ g, (vs i).ownBlock = some g → g ≠ w2.heap.size + 1 from by
    obtain ⟨l1, l2, l3⟩ := L2.out.lt
    exact ⟨by omega, by omega, by omega, fun i hi g hg => by have := (L2.out.ne.2.2.2 i hi g hg).2.2.2; omega⟩)
  have HQW := hid (show w.heap.size ≤ w2.heap.size ∧ w.heap.size + 1 < w2.heap.size from ⟨L2.out.touch.size, lt_of_block BC.out⟩)
  refine ⟨trivial, ?_⟩
  refine (each_in 4 d _).mono ?_
  rintro e w' ⟨rfl, rfl⟩
  gi_wp2
  have T3 := hid ((((Touch.refl (fun _ => False) w2).alloc (.cells #[.slice (some ⟨bg, 0, none⟩) (lns d).length (lns d).length, .slice (some ⟨ch, 0, none⟩) ((lns d).length + 1) ((lns d).length + 1)] 53)).alloc (.cells #[.int .i64 0] 3)).alloc (.cells #[.string d] 9))
  have BT := hid (show ((((w2.alloc (.cells #[.slice (some ⟨bg, 0, none⟩) (lns d).length (lns d).length, .slice (some ⟨ch, 0, none⟩) ((lns d).length + 1) ((lns d).length + 1)] 53)).alloc (.cells #[.int .i64 0] 3)).alloc (.cells #[.string d] 9))).heap[w2.heap.size]? = some (.cells #[.slice (some ⟨bg, 0, none⟩) (lns d).length (lns d).length, .slice (some ⟨ch, 0, none⟩) ((lns d).length + 1) ((lns d).length + 1)] 53 (0, 0)) from
    (Below.heap_alloc _ _ _ (by simp; omega)).trans ((Below.heap_alloc _ _ _ (by simp)).trans (heap_alloc_new _ _)))
  have BO := hid (show ((((w2.alloc (.cells #[.slice (some ⟨bg, 0, none⟩) (lns d).length (lns d).length, .slice (some ⟨ch, 0, none⟩) ((lns d).length + 1) ((lns d).length + 1)] 53)).alloc (.cells #[.int .i64 0] 3)).alloc (.cells #[.string d] 9))).heap[w2.heap.size + 1]? = some (.cells #[.int .i64 0] 3 (0, 0)) from by
    have h := heap_alloc_new (w2.alloc (.cells #[.slice (some ⟨bg, 0, none⟩) (lns d).length (lns d).length, .slice (some ⟨ch, 0, none⟩) ((lns d).length + 1) ((lns d).length + 1)] 53)) (.cells #[.int .i64 0] 3)
    rw [World.size_alloc] at h
    exact (Below.heap_alloc _ _ _ (by simp)).trans h)
  have BX := hid (show ((((w2.alloc (.cells #[.slice (some ⟨bg, 0, none⟩) (lns d).length (lns d).length, .slice (some ⟨ch, 0, none⟩) ((lns d).length + 1) ((lns d).length + 1)] 53)).alloc (.cells #[.int .i64 0] 3)).alloc (.cells #[.string d] 9))).heap[w2.heap.size + 1 + 1]? = some (.cells #[.string d] 9 (0, 0)) from by
    have h := heap_alloc_new ((w2.alloc (.cells #[.slice (some ⟨bg, 0, none⟩) (lns d).length (lns d).length, .slice (some ⟨ch, 0, none⟩) ((lns d).length + 1) ((lns d).length + 1)] 53)).alloc (.cells #[.int .i64 0] 3)) (.cells #[.string d] 9)
    simp only [World.size_alloc] at h
    exact h)
  generalize ((w2.alloc (.cells #[.slice (some ⟨bg, 0, none⟩) (lns d).length (lns d).length, .slice (some ⟨ch, 0, none⟩) ((lns d).length + 1) ((lns d).length + 1)] 53)).alloc (.cells #[.int .i64 0] 3)).alloc (.cells #[.string d] 9) = w3 at *
  replace BI := hid ((T3.out.block _ (lt_of_block BI.out) id).trans BI.out)
  replace BC := hid ((T3.out.block _ (lt_of_block BC.out) id).trans BC.out)
  have L3 := hid (L2.out.still T3.out)
  clear L2 T3
  generalize w2.heap.size = q2 at *
  have HQ3 := hid (lt_of_block BX.out)
  refine wpIn_rangeFunc_ownH (w := w3) rfl (by omega) (gf := 20) (lb := #[.pointer (some ⟨q2 + 1 + 1, 0, none⟩)]) rfl trivial (enters_of Try.func20 (by kernel_rfl) rfl)
    (each_stops 4 (by omega) (q2 + 1 + 1) d (by omega) w3 BX.out) kpb_t (fun W l o o' _ h hc _ => kpb_b W l o o' h hc) (Below.refl _ _) (fun _ => rfl)
    (fun pre W => SelI w w.heap.size (w.heap.size + 1) q2 (q2 + 1) (q2 + 1 + 1) tb bg ch vs d fs inv pre W)
    (fun _ _ _ => False)
    (SelI.own (by have := HQW.out; have := HQ3.out; omega))
    (fun _ _ _ _ _ hs _ _ => hs)
    ⟨BI.out, BT.out, BO.out, BX.out, ⟨_, BC.out, World.ownsRow_nil _ _ _ _⟩, L3.out⟩
    (fun x a' W => ∃ Bx, q2 + 1 + 1 < Bx ∧ W.heap[Bx]? = some (.cells #[.int .i64 ((lns d)[x.1]).1, .int .i64 ((lns d)[x.1]).2] 27 (0, 0)) ∧ a' = { tmps := #[.string d, .slice a2 fs.length c2, .bool inv, undef, undef, .pointer (some ⟨w.heap.size, 0, none⟩), .slice none 0 0, .pointer (some ⟨w.heap.size + 1, 0, none⟩), .pointer (some ⟨q2, 0, none⟩), .pointer (some ⟨q2 + 1, 0, none⟩), .int .i64 (x.1 : Nat), .pointer (some ⟨Bx, 0, none⟩), undef, .string d, .slice a1 (lns d).length c1, .slice a2 fs.length c2, .agg #[.slice (some ⟨bg, 0, none⟩) (lns d).length (lns d).length, .slice (some ⟨ch, 0, none⟩) ((lns d).length + 1) ((lns d).length + 1)], .string d, .func (.func 20) #[] #[.pointer (some ⟨q2 + 1 + 1, 0, none⟩)], .int .i64 (x.1 : Nat), .agg #[.int .i64 ((lns d)[x.1]).1, .int .i64 ((lns d)[x.1]).2], undef, undef, undef, undef, undef, undef, undef, undef, undef, undef, undef, undef, undef, undef, undef, undef, undef, undef, undef, undef, undef, undef, undef, undef, undef], defers := [] }) ?hAx ?assign ?body ?done ?stop
  case hAx =>
    rintro x a' s A B row ⟨Bx, hlt, hc, rfl⟩ hg hr
    exact ⟨Bx, hlt, (cells_stay hg (fun r e => (hr r e).2) hc).trans hc, rfl⟩
  case assign =>
    rintro l pre x W K hs hK
    unfold encL
    gi_wp2
    obtain ⟨v, hv, hrow⟩ := hs.bc
    have TA := (Touch.refl (fun _ => False) W).alloc (.cells #[.int .i64 ((lns d)[x.1]).1, .int .i64 ((lns d)[x.1]).2] 27)
    refine hK _ _ ((KeepsOthers.alloc _ _).from _) (fun hb => hb.alloc _) ⟨(TA.block _ (lt_of_block hs.bi) id).trans hs.bi, (TA.block _ (lt_of_block hs.bt) id).trans hs.bt, (TA.block _ (lt_of_block hs.bo) id).trans hs.bo, (TA.block _ (lt_of_block hs.bx) id).trans hs.bx, ⟨v, (TA.block _ (lt_of_block hv) id).trans hv, own_keepT hrow TA⟩, hs.ly.still TA⟩ ⟨W.heap.size, lt_of_block hs.bx, two_new _ _ _, rfl⟩
  case done =>
    rintro D ys W hD rfl hs hK
    obtain ⟨v, hv, hrow⟩ := hs.bc
    have hc := (show Boxed W (w.heap.size + 1) 37 v from hv).cell
    gi_wp2
    refine ⟨by simp, .inl ⟨_, _, rfl, run_takeDeferred hK, ?_⟩⟩
    refine ⟨_, results_tmp rfl _ _ _, v, tb, bg, ch, vs, rfl, ownsRow_putObj hrow _ hK rfl, hs.ly.frame (hs.ly.touch.grown (grownBy_putObj' W D _) (fun k e hk => ?_)) (fun b cs ty hb _ => ?_)⟩
    · cases e
      have := HQW.out
      have := HQ3.out
      omega
    · exact cells_stay (grownBy_putObj' W D _) (fun r e => by cases e; exact ⟨_, hK, rfl⟩) hb
  case stop =>
    rintro D c pre W _ _ h _
    exact h.elim
  case body =>
    rintro l pre x a' W hl ⟨r, hr⟩ hs ⟨Bx, hBx, hcx, rfl⟩ hlt
    gi_wp2
    have HS := hid hs
    obtain ⟨t0, t1, tB, tC, fB, fC⟩ := hs.ly.cells
    have hsb := stF_bound (lns d) fs inv pre (by omega) hfb
    have hcb := chgF_bound (lns d) x.1 fs
    have HSN := hid (stF_snoc (lns d) fs inv pre x)
    obtain ⟨k, hkl⟩ := x
    dsimp only at hcx hcb ⊢
    have o0 := (show Boxed W (q2 + 1) 3 (.int .i64 (stF (lns d) fs inv pre).1) from hs.bo).cell
    have o1 := (show Boxed W (q2 + 1) 3 (.int .i64 (stF (lns d) fs inv pre).1) from hs.bo).frozen
    have b1 := cell_two1 hs.bt
    have cc := tC k (by omega)
    obtain ⟨ov, hov⟩ : ∃ ov, ov = (stF (lns d) fs inv pre).1 := ⟨_, rfl⟩
    obtain ⟨c, hc⟩ : ∃ c, c = chgF (lns d) fs k := ⟨_, rfl⟩
    rw [← hov] at o0 hsb
    rw [← hc] at cc hcb
    have HOV := hid hov
    have HC := hid hc
    have hs1 := hsb.1
    have hs2 := hsb.2.1
    have HSL := hid hsb.2.2
    have hc1 : -2097152 ≤ c := by omega
    have hc2 : c ≤ 2097152 := by omega
    obtain ⟨y, hy⟩ : ∃ y, y = (lns d)[k].1 := ⟨_, rfl⟩
    obtain ⟨z, hz⟩ : ∃ z, z = (lns d)[k].2 := ⟨_, rfl⟩
    rw [← hy, ← hz] at hcx ⊢
    have HY := hid hy
    have HZ := hid hz
    have hkI : (k : Int) < ((lns d).length : Int) + 1 := by omega
    have hwr : IntKind.i64.wrap (ov + c) = ov + c := by rw [IntKind.wrap_i64]; omega
    clear hs hov hc hy hz hsb hcb tB tC fB fC t0 t1
    refine Code.wpIn_mono (Q := fun e a' w' => match e with | .normal => (∃ t21 t22 t23 t24 t25 t26 t27 : Value, a' = { tmps := #[.string d, .slice a2 fs.length c2, .bool inv, undef, undef, .pointer (some ⟨w.heap.size, 0, none⟩), .slice none 0 0, .pointer (some ⟨w.heap.size + 1, 0, none⟩), .pointer (some ⟨q2, 0, none⟩), .pointer (some ⟨q2 + 1, 0, none⟩), .int .i64 (k : Nat), .pointer (some ⟨Bx, 0, none⟩), undef, .string d, .slice a1 (lns d).length c1, .slice a2 fs.length c2, .agg #[.slice (some ⟨bg, 0, none⟩) (lns d).length (lns d).length, .slice (some ⟨ch, 0, none⟩) ((lns d).length + 1) ((lns d).length + 1)], .string d, .func (.func 20) #[] #[.pointer (some ⟨q2 + 1 + 1, 0, none⟩)], .int .i64 (k : Nat), .agg #[.int .i64 y, .int .i64 z], t21, t22, t23, t24, t25, t26, t27, undef, undef, undef, undef, undef, undef, undef, undef, undef, undef, undef, undef, undef, undef, undef, undef, undef, undef], defers := [] } ∧ w' = (W.setCell ⟨q2 + 1, 0, none⟩ (.int .i64 (ov + c))).drew) | _ => False) ?_ ?_
    rotate_left
    · refine wpIn_region_round (by kernel_rfl) (by kernel_rfl) ?_
      refine wpAnyIn_take (i := 1) (v := ?_) rfl rfl (by kernel_rfl) (by kernel_rfl) (by kernel_rfl) (fun _ _ _ h => h) ⟨Or.inl ⟨by rfl, ?_⟩, fun _ => rfl⟩ ?_
      rotate_left
      · intro w
        first | (go_simp; done) | (go_simp; with_reducible rfl)
      refine wpAnyIn_take (i := 3) (v := ?_) rfl rfl (by kernel_rfl) (by kernel_rfl) (by kernel_rfl) (fun _ _ _ h => h) ⟨Or.inl ⟨by rfl, ?_⟩, fun _ => rfl⟩ ?_
      rotate_left
      · intro w
        first | (go_simp; done) | (go_simp; with_reducible rfl)
      refine wpAnyIn_ready (rs := [0, 2]) (by kernel_rfl) (by simp) ?_
      refine AllReadyIn.cons rfl (fun K hK => ?_) ?_
      · go_simp
        refine hK _ _ ?_
        clear hK K
        refine wpAnyIn_ready (rs := [2]) (by kernel_rfl) (by simp) ?_
        refine AllReadyIn.cons rfl (fun K hK => ?_) ?_
        · go_simp
          refine hK _ _ ?_
          clear hK K
          refine wpAnyIn_take (i := 4) (v := ?_) rfl rfl (by kernel_rfl) (by kernel_rfl) (by kernel_rfl) (fun _ _ _ h => h) ⟨Or.inl ⟨by rfl, ?_⟩, fun _ => rfl⟩ ?_
          rotate_left
          · intro w
            first | (go_simp; done) | (go_simp; with_reducible rfl)
          refine wpAnyIn_ready (rs := [5]) (by kernel_rfl) (by simp) ?_
          refine AllReadyIn.cons rfl (fun K hK => ?_) ?_
          · go_simp
            refine hK _ _ ?_
            clear hK K
            refine wpAnyIn_take (i := 6) (v := ?_) rfl rfl (by kernel_rfl) (by kernel_rfl) (by kernel_rfl) (fun _ _ _ h => h) ⟨Or.inl ⟨by rfl, ?_⟩, fun _ => rfl⟩ ?_
            rotate_left
            · intro w
              first | (go_simp; done) | (go_simp; with_reducible rfl)
            refine wpAnyIn_ready (rs := [7]) (by kernel_rfl) (by simp) ?_
            refine AllReadyIn.cons rfl (fun K hK => ?_) ?_
            · go_simp
              refine hK _ _ ?_
              clear hK K
              refine wpAnyIn_done (by kernel_rfl) ?_ _
              exact ⟨_, _, _, _, _, _, _, rfl, rfl⟩
            exact AllReadyIn.nil
          exact AllReadyIn.nil
        exact AllReadyIn.nil
      refine AllReadyIn.cons rfl (fun K hK => ?_) ?_
      · go_simp
        refine hK _ _ ?_
        clear hK K
        refine wpAnyIn_take (i := 4) (v := ?_) rfl rfl (by kernel_rfl) (by kernel_rfl) (by kernel_rfl) (fun _ _ _ h => h) ⟨Or.inl ⟨by rfl, ?_⟩, fun _ => rfl⟩ ?_
        rotate_left
        · intro w
          first | (go_simp; done) | (go_simp; with_reducible rfl)
        refine wpAnyIn_ready (rs := [0, 5]) (by kernel_rfl) (by simp) ?_
        refine AllReadyIn.cons rfl (fun K hK => ?_) ?_
        · go_simp
          refine hK _ _ ?_
          clear hK K
          refine wpAnyIn_ready (rs := [5]) (by kernel_rfl) (by simp) ?_
          refine AllReadyIn.cons rfl (fun K hK => ?_) ?_
          · go_simp
            refine hK _ _ ?_
            clear hK K
            refine wpAnyIn_take (i := 6) (v := ?_) rfl rfl (by kernel_rfl) (by kernel_rfl) (by kernel_rfl) (fun _ _ _ h => h) ⟨Or.inl ⟨by rfl, ?_⟩, fun _ => rfl⟩ ?_
            rotate_left
            · intro w
              first | (go_simp; done) | (go_simp; with_reducible rfl)
            refine wpAnyIn_ready (rs := [7]) (by kernel_rfl) (by simp) ?_
            refine AllReadyIn.cons rfl (fun K hK => ?_) ?_
            · go_simp
              refine hK _ _ ?_
              clear hK K
              refine wpAnyIn_done (by kernel_rfl) ?_ _
              exact ⟨_, _, _, _, _, _, _, rfl, rfl⟩
            exact AllReadyIn.nil
          exact AllReadyIn.nil
        refine AllReadyIn.cons rfl (fun K hK => ?_) ?_
        · go_simp
          refine hK _ _ ?_
          clear hK K
          refine wpAnyIn_ready (rs := [0]) (by kernel_rfl) (by simp) ?_
          refine AllReadyIn.cons rfl (fun K hK => ?_) ?_
          · go_simp
            refine hK _ _ ?_
            clear hK K
            refine wpAnyIn_take (i := 6) (v := ?_) rfl rfl (by kernel_rfl) (by kernel_rfl) (by kernel_rfl) (fun _ _ _ h => h) ⟨Or.inl ⟨by rfl, ?_⟩, fun _ => rfl⟩ ?_
            rotate_left
            · intro w
              first | (go_simp; done) | (go_simp; with_reducible rfl)
            refine wpAnyIn_ready (rs := [7]) (by kernel_rfl) (by simp) ?_
            refine AllReadyIn.cons rfl (fun K hK => ?_) ?_
            · go_simp
              refine hK _ _ ?_
              clear hK K
              refine wpAnyIn_done (by kernel_rfl) ?_ _
              exact ⟨_, _, _, _, _, _, _, rfl, rfl⟩
            exact AllReadyIn.nil
          exact AllReadyIn.nil
        exact AllReadyIn.nil
      exact AllReadyIn.nil
    rintro e a' w' h
    cases e <;> first | exact h.elim | skip
    obtain ⟨t21, t22, t23, t24, t25, t26, t27, rfl, rfl⟩ := h
    clear o0 o1 b1 cc
    dsimp only
    have J4 := hid ((HS.out.put (by have := HQW.out; omega) FAR.out (ov + c)).still (Touch.refl _ _).drew)
    have K4 := hid (show KeepsOthers W (W.setCell ⟨q2 + 1, 0, none⟩ (.int .i64 (ov + c))).drew from (KeepsOthers.setCell _ _ _).trans (KeepsOthers.drew _))
    have X4 := hid (show (W.setCell ⟨q2 + 1, 0, none⟩ (.int .i64 (ov + c))).drew.heap[Bx]? = some (.cells #[.int .i64 y, .int .i64 z] 27 (0, 0)) from (Below.heap_setCell _ _ _ _ (by show Bx ≠ q2 + 1; omega)).trans hcx)
    generalize (W.setCell ⟨q2 + 1, 0, none⟩ (.int .i64 (ov + c))).drew = W4 at *
    clear hcx
    have o0 := (show Boxed W4 (q2 + 1) 3 (.int .i64 (ov + c)) from J4.out.bo).cell
    have i0' := (show Boxed W4 w.heap.size 4 (.bool inv) from J4.out.bi).cell
    obtain ⟨ox, hox⟩ : ∃ ox, ox = ov + c := ⟨_, rfl⟩
    rw [← hox] at o0 J4
    have HOX := hid hox
    clear hox hwr
    gi_wp2
    · have hsel : (decide (0 < ox) != inv) = true := by assumption
      have SNX := hid (show stF (lns d) fs inv (pre ++ [⟨k, hkl⟩]) = (ox, (stF (lns d) fs inv pre).2 ++ [⟨k, hkl⟩]) from by
        rw [HSN.out]
        unfold stStep
        dsimp only
        rw [← HOV.out, ← HC.out, ← HOX.out, hsel, if_pos rfl])
      obtain ⟨v, hv, hrow⟩ := J4.out.bc
      obtain ⟨av, cv, hvs⟩ := own_shape hrow
      subst hvs
      have hsl := HSL.out
      obtain ⟨sl, hsl'⟩ : ∃ sl, sl = (stF (lns d) fs inv pre).2 := ⟨_, rfl⟩
      rw [← hsl'] at hv hrow hsl J4 SNX
      have hslb : sl.length ≤ 2097152 := by omega
      clear hsl hsl'
      obtain ⟨ak, ck, hvk⟩ := own_shape (J4.out.ly.own k hkl)
      have hbl := begF_len (lns d) fs k
      obtain ⟨lk, hlk⟩ : ∃ lk, lk = (begF (lns d) fs k).length := ⟨_, rfl⟩
      rw [← hlk] at hvk hbl
      obtain ⟨q0, q1, qB, qC, gB, gC⟩ := J4.out.ly.cells
      have e0 := qB k hkl
      rw [hvk] at e0
      have c0 := (show Boxed W4 (w.heap.size + 1) 37 (.slice av sl.length cv) from hv).cell
      have c1 := (show Boxed W4 (w.heap.size + 1) 37 (.slice av sl.length cv) from hv).frozen
      have b0 := cell_two0 J4.out.bt
      have x0 := cell_two0 X4.out
      have x1 := cell_two1 X4.out
      have c0a : (W4.alloc (.cells #[.int .i64 ((k : Int) + 1), .int .i64 y, .int .i64 z, .slice ak lk ck] 41)).cell? ⟨w.heap.size + 1, 0, none⟩ = some (.slice av sl.length cv) := ((show Boxed W4 (w.heap.size + 1) 37 (.slice av sl.length cv) from hv).alloc _).cell
      have hwk : IntKind.i64.wrap ((k : Int) + 1) = (k : Int) + 1 := by rw [IntKind.wrap_i64]; omega
      have ROW := hid hrow
      have HV := hid hv
      have HVK := hid hvk
      have HSZ := hid J4.out.ly.touch.size
      have hkI2 : (k : Int) < ((lns d).length : Int) := by omega
      clear hrow hv hvk hlk qB qC gB gC q0 q1 o0 i0'
      refine Code.wpIn_mono (Q := fun e a' w' => match e with | .normal => SelJ w w.heap.size (w.heap.size + 1) q2 (q2 + 1) (q2 + 1 + 1) tb bg ch vs d fs inv ox (sl ++ [⟨k, hkl⟩]) w' ∧ KeepsOthers W4 w' | _ => False) ?_ ?_
      rotate_left
      · refine wpIn_region_round (by kernel_rfl) (by kernel_rfl) ?_
        refine wpAnyIn_take (i := 1) (v := ?_) rfl rfl (by kernel_rfl) (by kernel_rfl) (by kernel_rfl) (fun _ _ _ h => h) ⟨Or.inl ⟨by rfl, ?_⟩, fun _ => rfl⟩ ?_
        rotate_left
        · intro w
          first | (go_simp; done) | (go_simp; with_reducible rfl)
        refine wpAnyIn_take (i := 2) (v := ?_) rfl rfl (by kernel_rfl) (by kernel_rfl) (by kernel_rfl) (fun _ _ _ h => h) ⟨Or.inl ⟨by rfl, ?_⟩, fun _ => rfl⟩ ?_
        rotate_left
        · intro w
          first | (go_simp; done) | (go_simp; with_reducible rfl)
        refine wpAnyIn_take (i := 4) (v := ?_) rfl rfl (by kernel_rfl) (by kernel_rfl) (by kernel_rfl) (fun _ _ _ h => h) ⟨Or.inl ⟨by rfl, ?_⟩, fun _ => rfl⟩ ?_
        rotate_left
        · intro w
          first | (go_simp; done) | (go_simp; with_reducible rfl)
        refine wpAnyIn_take (i := 6) (v := ?_) rfl rfl (by kernel_rfl) (by kernel_rfl) (by kernel_rfl) (fun _ _ _ h => h) ⟨Or.inl ⟨by rfl, ?_⟩, fun _ => rfl⟩ ?_
        rotate_left
        · intro w
          first | (go_simp; done) | (go_simp; with_reducible rfl)
        refine wpAnyIn_ready (rs := [0, 3, 5]) (by kernel_rfl) (by simp) ?_
        refine AllReadyIn.cons rfl (fun K hK => ?_) ?_
        · go_simp
          refine hK _ _ ?_
          clear hK K
          refine wpAnyIn_ready (rs := [3, 5]) (by kernel_rfl) (by simp) ?_
          refine AllReadyIn.cons rfl (fun K hK => ?_) ?_
          · go_simp
            refine hK _ _ ?_
            clear hK K
            refine wpAnyIn_ready (rs := [5]) (by kernel_rfl) (by simp) ?_
            refine AllReadyIn.cons rfl (fun K hK => ?_) ?_
            · go_simp
              refine hK _ _ ?_
              clear hK K
              refine wpAnyIn_take (i := 7) (v := ?_) rfl rfl (by kernel_rfl) (by kernel_rfl) (by kernel_rfl) (fun _ _ _ h => h) ⟨Or.inl ⟨by rfl, ?_⟩, fun _ => rfl⟩ ?_
              rotate_left
              · intro w
                first | (go_simp; done) | (go_simp; with_reducible rfl)
              refine wpAnyIn_ready (rs := [8]) (by kernel_rfl) (by simp) ?_
              refine AllReadyIn.cons rfl (fun K hK => ?_) ?_
              · go_simp
                refine hK _ _ ?_
                clear hK K
                refine wpAnyIn_take (i := 9) (v := ?_) rfl rfl (by kernel_rfl) (by kernel_rfl) (by kernel_rfl) (fun _ _ _ h => h) ⟨Or.inl ⟨by rfl, ?_⟩, fun _ => rfl⟩ ?_
                rotate_left
                · intro w
                  first | (go_simp; done) | (go_simp; with_reducible rfl)
                refine wpAnyIn_ready (rs := [10]) (by kernel_rfl) (by simp) ?_
                refine AllReadyIn.cons rfl (fun K hK => ?_) ?_
                · go_simp
                  refine hK _ _ ?_
                  clear hK K
                  refine wpAnyIn_ready (rs := [11]) (by kernel_rfl) (by simp) ?_
                  refine AllReadyIn.cons rfl (fun K hK => ?_) ?_
                  · refine stepIn_append_own _ (by rfl) _ _ _ (by rfl) w.heap.size 41 i0 _ 4 48 Try.underlying37 hi hz0 hz1 hz2 rfl (by decide) (.slice av sl.length cv) sl.length (flatLn (lns d) vs sl) (by rfl) (own_keepT ROW.out (by repeat (first | exact Touch.refl _ _ | refine Touch.alloc ?_ _ | refine Touch.drew ?_ | refine Touch.drewN ?_ _))) _ 1 1 [.int .i64 ((k : Int) + 1), .int .i64 y, .int .i64 z, .slice ak lk ck] (by rfl) (by rfl) (news_new (by repeat (first | exact Touch.refl _ _ | refine Touch.alloc ?_ _ | refine Touch.drew ?_ | refine Touch.drewN ?_ _)) (by simp)) (by intro u hu; simp at hu; rcases hu with rfl | rfl | rfl | rfl <;> rfl) (by unfold maxLen; omega) (by omega) (Nat.le_trans HSZ.out (Touch.size (S := fun _ => False) (w := W4) (by repeat (first | exact Touch.refl _ _ | refine Touch.alloc ?_ _ | refine Touch.drew ?_ | refine Touch.drewN ?_ _)))) ?_
                    intro v4 w4 hown hgrow
                    obtain ⟨a4, k4, hv4⟩ := own_shape hown
                    subst hv4
                    have g0 : w4.heap[w.heap.size + 1]? = some (.cells #[.slice av sl.length cv] 37 (0, 0)) := (hgrow.block _ (Nat.lt_of_lt_of_le (lt_of_block HV.out) (Touch.size (S := fun _ => False) (w := W4) (by repeat (first | exact Touch.refl _ _ | refine Touch.alloc ?_ _ | refine Touch.drew ?_ | refine Touch.drewN ?_ _)))) (fun e => by obtain ⟨c2, h2⟩ := own_blk ROW.out e.symm; exact ne_type HV.out h2 (by decide) rfl)).trans ((Touch.block (S := fun _ => False) (w := W4) (by repeat (first | exact Touch.refl _ _ | refine Touch.alloc ?_ _ | refine Touch.drew ?_ | refine Touch.drewN ?_ _)) _ (lt_of_block HV.out) id).trans HV.out)
                    have g1 := (show Boxed w4 (w.heap.size + 1) 37 (.slice av sl.length cv) from g0).cell
                    have g2 := (show Boxed w4 (w.heap.size + 1) 37 (.slice av sl.length cv) from g0).frozen
                    have OW4 := hid hown
                    have GR4 := hid hgrow
                    clear hown hgrow g0
                    refine hK _ _ ?_
                    clear hK K
                    refine wpAnyIn_ready (rs := [12]) (by kernel_rfl) (by simp) ?_
                    refine AllReadyIn.cons rfl (fun K hK => ?_) ?_
                    · go_simp
                      refine hK _ _ ?_
                      clear hK K
                      refine wpAnyIn_done (by kernel_rfl) ?_ _
                      refine ⟨J4.out.app (by omega) HV.out ROW.out (by repeat (first | exact Touch.refl _ _ | refine Touch.alloc ?_ _ | refine Touch.drew ?_ | refine Touch.drewN ?_ _)) (by have := OW4.out; unfold encLn; dsimp only; rw [← HY.out, ← HZ.out, HVK.out]; exact this) GR4.out, keepsO_app (by repeat (first | exact KeepsOthers.refl _ | refine KeepsOthers.trans ?_ (KeepsOthers.alloc _ _) | refine KeepsOthers.trans ?_ (KeepsOthers.drew _))) (own_keepT ROW.out (by repeat (first | exact Touch.refl _ _ | refine Touch.alloc ?_ _ | refine Touch.drew ?_ | refine Touch.drewN ?_ _))) GR4.out _ _⟩
                    exact AllReadyIn.nil
                  exact AllReadyIn.nil
                exact AllReadyIn.nil
              exact AllReadyIn.nil
            exact AllReadyIn.nil
          refine AllReadyIn.cons rfl (fun K hK => ?_) ?_
          · go_simp
            refine hK _ _ ?_
            clear hK K
            refine wpAnyIn_take (i := 7) (v := ?_) rfl rfl (by kernel_rfl) (by kernel_rfl) (by kernel_rfl) (fun _ _ _ h => h) ⟨Or.inl ⟨by rfl, ?_⟩, fun _ => rfl⟩ ?_
            rotate_left
            · intro w
              first | (go_simp; done) | (go_simp; with_reducible rfl)
            refine wpAnyIn_ready (rs := [3, 8]) (by kernel_rfl) (by simp) ?_
            refine AllReadyIn.cons rfl (fun K hK => ?_) ?_
            · go_simp
              refine hK _ _ ?_
              clear hK K
              refine wpAnyIn_ready (rs := [8]) (by kernel_rfl) (by simp) ?_
              refine AllReadyIn.cons rfl (fun K hK => ?_) ?_
              · go_simp
                refine hK _ _ ?_
                clear hK K
                refine wpAnyIn_take (i := 9) (v := ?_) rfl rfl (by kernel_rfl) (by kernel_rfl) (by kernel_rfl) (fun _ _ _ h => h) ⟨Or.inl ⟨by rfl, ?_⟩, fun _ => rfl⟩ ?_
                rotate_left
                · intro w
                  first | (go_simp; done) | (go_simp; with_reducible rfl)
                refine wpAnyIn_ready (rs := [10]) (by kernel_rfl) (by simp) ?_
                refine AllReadyIn.cons rfl (fun K hK => ?_) ?_
                · go_simp
                  refine hK _ _ ?_
                  clear hK K
                  refine wpAnyIn_ready (rs := [11]) (by kernel_rfl) (by simp) ?_
                  refine AllReadyIn.cons rfl (fun K hK => ?_) ?_
                  · refine stepIn_append_own _ (by rfl) _ _ _ (by rfl) w.heap.size 41 i0 _ 4 48 Try.underlying37 hi hz0 hz1 hz2 rfl (by decide) (.slice av sl.length cv) sl.length (flatLn (lns d) vs sl) (by rfl) (own_keepT ROW.out (by repeat (first | exact Touch.refl _ _ | refine Touch.alloc ?_ _ | refine Touch.drew ?_ | refine Touch.drewN ?_ _))) _ 1 1 [.int .i64 ((k : Int) + 1), .int .i64 y, .int .i64 z, .slice ak lk ck] (by rfl) (by rfl) (news_new (by repeat (first | exact Touch.refl _ _ | refine Touch.alloc ?_ _ | refine Touch.drew ?_ | refine Touch.drewN ?_ _)) (by simp)) (by intro u hu; simp at hu; rcases hu with rfl | rfl | rfl | rfl <;> rfl) (by unfold maxLen; omega) (by omega) (Nat.le_trans HSZ.out (Touch.size (S := fun _ => False) (w := W4) (by repeat (first | exact Touch.refl _ _ | refine Touch.alloc ?_ _ | refine Touch.drew ?_ | refine Touch.drewN ?_ _)))) ?_
                    intro v4 w4 hown hgrow
                    obtain ⟨a4, k4, hv4⟩ := own_shape hown
                    subst hv4
                    have g0 : w4.heap[w.heap.size + 1]? = some (.cells #[.slice av sl.length cv] 37 (0, 0)) := (hgrow.block _ (Nat.lt_of_lt_of_le (lt_of_block HV.out) (Touch.size (S := fun _ => False) (w := W4) (by repeat (first | exact Touch.refl _ _ | refine Touch.alloc ?_ _ | refine Touch.drew ?_ | refine Touch.drewN ?_ _)))) (fun e => by obtain ⟨c2, h2⟩ := own_blk ROW.out e.symm; exact ne_type HV.out h2 (by decide) rfl)).trans ((Touch.block (S := fun _ => False) (w := W4) (by repeat (first | exact Touch.refl _ _ | refine Touch.alloc ?_ _ | refine Touch.drew ?_ | refine Touch.drewN ?_ _)) _ (lt_of_block HV.out) id).trans HV.out)
                    have g1 := (show Boxed w4 (w.heap.size + 1) 37 (.slice av sl.length cv) from g0).cell
                    have g2 := (show Boxed w4 (w.heap.size + 1) 37 (.slice av sl.length cv) from g0).frozen
                    have OW4 := hid hown
                    have GR4 := hid hgrow
                    clear hown hgrow g0
                    refine hK _ _ ?_
                    clear hK K
                    refine wpAnyIn_ready (rs := [12]) (by kernel_rfl) (by simp) ?_
                    refine AllReadyIn.cons rfl (fun K hK => ?_) ?_
                    · go_simp
                      refine hK _ _ ?_
                      clear hK K
                      refine wpAnyIn_done (by kernel_rfl) ?_ _
                      refine ⟨J4.out.app (by omega) HV.out ROW.out (by repeat (first | exact Touch.refl _ _ | refine Touch.alloc ?_ _ | refine Touch.drew ?_ | refine Touch.drewN ?_ _)) (by have := OW4.out; unfold encLn; dsimp only; rw [← HY.out, ← HZ.out, HVK.out]; exact this) GR4.out, keepsO_app (by repeat (first | exact KeepsOthers.refl _ | refine KeepsOthers.trans ?_ (KeepsOthers.alloc _ _) | refine KeepsOthers.trans ?_ (KeepsOthers.drew _))) (own_keepT ROW.out (by repeat (first | exact Touch.refl _ _ | refine Touch.alloc ?_ _ | refine Touch.drew ?_ | refine Touch.drewN ?_ _))) GR4.out _ _⟩
                    exact AllReadyIn.nil
                  exact AllReadyIn.nil
                exact AllReadyIn.nil
              exact AllReadyIn.nil
            refine AllReadyIn.cons rfl (fun K hK => ?_) ?_
            · go_simp
              refine hK _ _ ?_
              clear hK K
              refine wpAnyIn_ready (rs := [3]) (by kernel_rfl) (by simp) ?_
              refine AllReadyIn.cons rfl (fun K hK => ?_) ?_
              · go_simp
                refine hK _ _ ?_
                clear hK K
                refine wpAnyIn_take (i := 9) (v := ?_) rfl rfl (by kernel_rfl) (by kernel_rfl) (by kernel_rfl) (fun _ _ _ h => h) ⟨Or.inl ⟨by rfl, ?_⟩, fun _ => rfl⟩ ?_
                rotate_left
                · intro w
                  first | (go_simp; done) | (go_simp; with_reducible rfl)
                refine wpAnyIn_ready (rs := [10]) (by kernel_rfl) (by simp) ?_
                refine AllReadyIn.cons rfl (fun K hK => ?_) ?_
                · go_simp
                  refine hK _ _ ?_
                  clear hK K
                  refine wpAnyIn_ready (rs := [11]) (by kernel_rfl) (by simp) ?_
                  refine AllReadyIn.cons rfl (fun K hK => ?_) ?_
                  · refine stepIn_append_own _ (by rfl) _ _ _ (by rfl) w.heap.size 41 i0 _ 4 48 Try.underlying37 hi hz0 hz1 hz2 rfl (by decide) (.slice av sl.length cv) sl.length (flatLn (lns d) vs sl) (by rfl) (own_keepT ROW.out (by repeat (first | exact Touch.refl _ _ | refine Touch.alloc ?_ _ | refine Touch.drew ?_ | refine Touch.drewN ?_ _))) _ 1 1 [.int .i64 ((k : Int) + 1), .int .i64 y, .int .i64 z, .slice ak lk ck] (by rfl) (by rfl) (news_new (by repeat (first | exact Touch.refl _ _ | refine Touch.alloc ?_ _ | refine Touch.drew ?_ | refine Touch.drewN ?_ _)) (by simp)) (by intro u hu; simp at hu; rcases hu with rfl | rfl | rfl | rfl <;> rfl) (by unfold maxLen; omega) (by omega) (Nat.le_trans HSZ.out (Touch.size (S := fun _ => False) (w := W4) (by repeat (first | exact Touch.refl _ _ | refine Touch.alloc ?_ _ | refine Touch.drew ?_ | refine Touch.drewN ?_ _)))) ?_
                    intro v4 w4 hown hgrow
                    obtain ⟨a4, k4, hv4⟩ := own_shape hown
                    subst hv4
                    have g0 : w4.heap[w.heap.size + 1]? = some (.cells #[.slice av sl.length cv] 37 (0, 0)) := (hgrow.block _ (Nat.lt_of_lt_of_le (lt_of_block HV.out) (Touch.size (S := fun _ => False) (w := W4) (by repeat (first | exact Touch.refl _ _ | refine Touch.alloc ?_ _ | refine Touch.drew ?_ | refine Touch.drewN ?_ _)))) (fun e => by obtain ⟨c2, h2⟩ := own_blk ROW.out e.symm; exact ne_type HV.out h2 (by decide) rfl)).trans ((Touch.block (S := fun _ => False) (w := W4) (by repeat (first | exact Touch.refl _ _ | refine Touch.alloc ?_ _ | refine Touch.drew ?_ | refine Touch.drewN ?_ _)) _ (lt_of_block HV.out) id).trans HV.out)
                    have g1 := (show Boxed w4 (w.heap.size + 1) 37 (.slice av sl.length cv) from g0).cell
                    have g2 := (show Boxed w4 (w.heap.size + 1) 37 (.slice av sl.length cv) from g0).frozen
                    have OW4 := hid hown
                    have GR4 := hid hgrow
                    clear hown hgrow g0
                    refine hK _ _ ?_
                    clear hK K
                    refine wpAnyIn_ready (rs := [12]) (by kernel_rfl) (by simp) ?_
                    refine AllReadyIn.cons rfl (fun K hK => ?_) ?_
                    · go_simp
                      refine hK _ _ ?_
                      clear hK K
                      refine wpAnyIn_done (by kernel_rfl) ?_ _
                      refine ⟨J4.out.app (by omega) HV.out ROW.out (by repeat (first | exact Touch.refl _ _ | refine Touch.alloc ?_ _ | refine Touch.drew ?_ | refine Touch.drewN ?_ _)) (by have := OW4.out; unfold encLn; dsimp only; rw [← HY.out, ← HZ.out, HVK.out]; exact this) GR4.out, keepsO_app (by repeat (first | exact KeepsOthers.refl _ | refine KeepsOthers.trans ?_ (KeepsOthers.alloc _ _) | refine KeepsOthers.trans ?_ (KeepsOthers.drew _))) (own_keepT ROW.out (by repeat (first | exact Touch.refl _ _ | refine Touch.alloc ?_ _ | refine Touch.drew ?_ | refine Touch.drewN ?_ _))) GR4.out _ _⟩
                    exact AllReadyIn.nil
                  exact AllReadyIn.nil
                exact AllReadyIn.nil
              exact AllReadyIn.nil
            exact AllReadyIn.nil
          exact AllReadyIn.nil
        refine AllReadyIn.cons rfl (fun K hK => ?_) ?_
        · go_simp
          refine hK _ _ ?_
          clear hK K
          refine wpAnyIn_ready (rs := [0, 5]) (by kernel_rfl) (by simp) ?_
          refine AllReadyIn.cons rfl (fun K hK => ?_) ?_
          · go_simp
            refine hK _ _ ?_
            clear hK K
            refine wpAnyIn_ready (rs := [5]) (by kernel_rfl) (by simp) ?_
            refine AllReadyIn.cons rfl (fun K hK => ?_) ?_
            · go_simp
              refine hK _ _ ?_
              clear hK K
              refine wpAnyIn_take (i := 7) (v := ?_) rfl rfl (by kernel_rfl) (by kernel_rfl) (by kernel_rfl) (fun _ _ _ h => h) ⟨Or.inl ⟨by rfl, ?_⟩, fun _ => rfl⟩ ?_
              rotate_left
              · intro w
                first | (go_simp; done) | (go_simp; with_reducible rfl)
              refine wpAnyIn_ready (rs := [8]) (by kernel_rfl) (by simp) ?_
              refine AllReadyIn.cons rfl (fun K hK => ?_) ?_
              · go_simp
                refine hK _ _ ?_
                clear hK K
                refine wpAnyIn_take (i := 9) (v := ?_) rfl rfl (by kernel_rfl) (by kernel_rfl) (by kernel_rfl) (fun _ _ _ h => h) ⟨Or.inl ⟨by rfl, ?_⟩, fun _ => rfl⟩ ?_
                rotate_left
                · intro w
                  first | (go_simp; done) | (go_simp; with_reducible rfl)
                refine wpAnyIn_ready (rs := [10]) (by kernel_rfl) (by simp) ?_
                refine AllReadyIn.cons rfl (fun K hK => ?_) ?_
                · go_simp
                  refine hK _ _ ?_
                  clear hK K
                  refine wpAnyIn_ready (rs := [11]) (by kernel_rfl) (by simp) ?_
                  refine AllReadyIn.cons rfl (fun K hK => ?_) ?_
                  · refine stepIn_append_own _ (by rfl) _ _ _ (by rfl) w.heap.size 41 i0 _ 4 48 Try.underlying37 hi hz0 hz1 hz2 rfl (by decide) (.slice av sl.length cv) sl.length (flatLn (lns d) vs sl) (by rfl) (own_keepT ROW.out (by repeat (first | exact Touch.refl _ _ | refine Touch.alloc ?_ _ | refine Touch.drew ?_ | refine Touch.drewN ?_ _))) _ 1 1 [.int .i64 ((k : Int) + 1), .int .i64 y, .int .i64 z, .slice ak lk ck] (by rfl) (by rfl) (news_new (by repeat (first | exact Touch.refl _ _ | refine Touch.alloc ?_ _ | refine Touch.drew ?_ | refine Touch.drewN ?_ _)) (by simp)) (by intro u hu; simp at hu; rcases hu with rfl | rfl | rfl | rfl <;> rfl) (by unfold maxLen; omega) (by omega) (Nat.le_trans HSZ.out (Touch.size (S := fun _ => False) (w := W4) (by repeat (first | exact Touch.refl _ _ | refine Touch.alloc ?_ _ | refine Touch.drew ?_ | refine Touch.drewN ?_ _)))) ?_
                    intro v4 w4 hown hgrow
                    obtain ⟨a4, k4, hv4⟩ := own_shape hown
                    subst hv4
                    have g0 : w4.heap[w.heap.size + 1]? = some (.cells #[.slice av sl.length cv] 37 (0, 0)) := (hgrow.block _ (Nat.lt_of_lt_of_le (lt_of_block HV.out) (Touch.size (S := fun _ => False) (w := W4) (by repeat (first | exact Touch.refl _ _ | refine Touch.alloc ?_ _ | refine Touch.drew ?_ | refine Touch.drewN ?_ _)))) (fun e => by obtain ⟨c2, h2⟩ := own_blk ROW.out e.symm; exact ne_type HV.out h2 (by decide) rfl)).trans ((Touch.block (S := fun _ => False) (w := W4) (by repeat (first | exact Touch.refl _ _ | refine Touch.alloc ?_ _ | refine Touch.drew ?_ | refine Touch.drewN ?_ _)) _ (lt_of_block HV.out) id).trans HV.out)
                    have g1 := (show Boxed w4 (w.heap.size + 1) 37 (.slice av sl.length cv) from g0).cell
                    have g2 := (show Boxed w4 (w.heap.size + 1) 37 (.slice av sl.length cv) from g0).frozen
                    have OW4 := hid hown
                    have GR4 := hid hgrow
                    clear hown hgrow g0
                    refine hK _ _ ?_
                    clear hK K
                    refine wpAnyIn_ready (rs := [12]) (by kernel_rfl) (by simp) ?_
                    refine AllReadyIn.cons rfl (fun K hK => ?_) ?_
                    · go_simp
                      refine hK _ _ ?_
                      clear hK K
                      refine wpAnyIn_done (by kernel_rfl) ?_ _
                      refine ⟨J4.out.app (by omega) HV.out ROW.out (by repeat (first | exact Touch.refl _ _ | refine Touch.alloc ?_ _ | refine Touch.drew ?_ | refine Touch.drewN ?_ _)) (by have := OW4.out; unfold encLn; dsimp only; rw [← HY.out, ← HZ.out, HVK.out]; exact this) GR4.out, keepsO_app (by repeat (first | exact KeepsOthers.refl _ | refine KeepsOthers.trans ?_ (KeepsOthers.alloc _ _) | refine KeepsOthers.trans ?_ (KeepsOthers.drew _))) (own_keepT ROW.out (by repeat (first | exact Touch.refl _ _ | refine Touch.alloc ?_ _ | refine Touch.drew ?_ | refine Touch.drewN ?_ _))) GR4.out _ _⟩
                    exact AllReadyIn.nil
                  exact AllReadyIn.nil
                exact AllReadyIn.nil
              exact AllReadyIn.nil
            exact AllReadyIn.nil
          refine AllReadyIn.cons rfl (fun K hK => ?_) ?_
          · go_simp
            refine hK _ _ ?_
            clear hK K
            refine wpAnyIn_take (i := 7) (v := ?_) rfl rfl (by kernel_rfl) (by kernel_rfl) (by kernel_rfl) (fun _ _ _ h => h) ⟨Or.inl ⟨by rfl, ?_⟩, fun _ => rfl⟩ ?_
            rotate_left
            · intro w
              first | (go_simp; done) | (go_simp; with_reducible rfl)
            refine wpAnyIn_ready (rs := [0, 8]) (by kernel_rfl) (by simp) ?_
            refine AllReadyIn.cons rfl (fun K hK => ?_) ?_
            · go_simp
              refine hK _ _ ?_
              clear hK K
              refine wpAnyIn_ready (rs := [8]) (by kernel_rfl) (by simp) ?_
              refine AllReadyIn.cons rfl (fun K hK => ?_) ?_
              · go_simp
                refine hK _ _ ?_
                clear hK K
                refine wpAnyIn_take (i := 9) (v := ?_) rfl rfl (by kernel_rfl) (by kernel_rfl) (by kernel_rfl) (fun _ _ _ h => h) ⟨Or.inl ⟨by rfl, ?_⟩, fun _ => rfl⟩ ?_
                rotate_left
                · intro w
                  first | (go_simp; done) | (go_simp; with_reducible rfl)
                refine wpAnyIn_ready (rs := [10]) (by kernel_rfl) (by simp) ?_
                refine AllReadyIn.cons rfl (fun K hK => ?_) ?_
                · go_simp
                  refine hK _ _ ?_
                  clear hK K
                  refine wpAnyIn_ready (rs := [11]) (by kernel_rfl) (by simp) ?_
                  refine AllReadyIn.cons rfl (fun K hK => ?_) ?_
                  · refine stepIn_append_own _ (by rfl) _ _ _ (by rfl) w.heap.size 41 i0 _ 4 48 Try.underlying37 hi hz0 hz1 hz2 rfl (by decide) (.slice av sl.length cv) sl.length (flatLn (lns d) vs sl) (by rfl) (own_keepT ROW.out (by repeat (first | exact Touch.refl _ _ | refine Touch.alloc ?_ _ | refine Touch.drew ?_ | refine Touch.drewN ?_ _))) _ 1 1 [.int .i64 ((k : Int) + 1), .int .i64 y, .int .i64 z, .slice ak lk ck] (by rfl) (by rfl) (news_new (by repeat (first | exact Touch.refl _ _ | refine Touch.alloc ?_ _ | refine Touch.drew ?_ | refine Touch.drewN ?_ _)) (by simp)) (by intro u hu; simp at hu; rcases hu with rfl | rfl | rfl | rfl <;> rfl) (by unfold maxLen; omega) (by omega) (Nat.le_trans HSZ.out (Touch.size (S := fun _ => False) (w := W4) (by repeat (first | exact Touch.refl _ _ | refine Touch.alloc ?_ _ | refine Touch.drew ?_ | refine Touch.drewN ?_ _)))) ?_
                    intro v4 w4 hown hgrow
                    obtain ⟨a4, k4, hv4⟩ := own_shape hown
                    subst hv4
                    have g0 : w4.heap[w.heap.size + 1]? = some (.cells #[.slice av sl.length cv] 37 (0, 0)) := (hgrow.block _ (Nat.lt_of_lt_of_le (lt_of_block HV.out) (Touch.size (S := fun _ => False) (w := W4) (by repeat (first | exact Touch.refl _ _ | refine Touch.alloc ?_ _ | refine Touch.drew ?_ | refine Touch.drewN ?_ _)))) (fun e => by obtain ⟨c2, h2⟩ := own_blk ROW.out e.symm; exact ne_type HV.out h2 (by decide) rfl)).trans ((Touch.block (S := fun _ => False) (w := W4) (by repeat (first | exact Touch.refl _ _ | refine Touch.alloc ?_ _ | refine Touch.drew ?_ | refine Touch.drewN ?_ _)) _ (lt_of_block HV.out) id).trans HV.out)
                    have g1 := (show Boxed w4 (w.heap.size + 1) 37 (.slice av sl.length cv) from g0).cell
                    have g2 := (show Boxed w4 (w.heap.size + 1) 37 (.slice av sl.length cv) from g0).frozen
                    have OW4 := hid hown
                    have GR4 := hid hgrow
                    clear hown hgrow g0
                    refine hK _ _ ?_
                    clear hK K
                    refine wpAnyIn_ready (rs := [12]) (by kernel_rfl) (by simp) ?_
                    refine AllReadyIn.cons rfl (fun K hK => ?_) ?_
                    · go_simp
                      refine hK _ _ ?_
                      clear hK K
                      refine wpAnyIn_done (by kernel_rfl) ?_ _
                      refine ⟨J4.out.app (by omega) HV.out ROW.out (by repeat (first | exact Touch.refl _ _ | refine Touch.alloc ?_ _ | refine Touch.drew ?_ | refine Touch.drewN ?_ _)) (by have := OW4.out; unfold encLn; dsimp only; rw [← HY.out, ← HZ.out, HVK.out]; exact this) GR4.out, keepsO_app (by repeat (first | exact KeepsOthers.refl _ | refine KeepsOthers.trans ?_ (KeepsOthers.alloc _ _) | refine KeepsOthers.trans ?_ (KeepsOthers.drew _))) (own_keepT ROW.out (by repeat (first | exact Touch.refl _ _ | refine Touch.alloc ?_ _ | refine Touch.drew ?_ | refine Touch.drewN ?_ _))) GR4.out _ _⟩
                    exact AllReadyIn.nil
                  exact AllReadyIn.nil
                exact AllReadyIn.nil
              exact AllReadyIn.nil
            refine AllReadyIn.cons rfl (fun K hK => ?_) ?_
            · go_simp
              refine hK _ _ ?_
              clear hK K
              refine wpAnyIn_take (i := 9) (v := ?_) rfl rfl (by kernel_rfl) (by kernel_rfl) (by kernel_rfl) (fun _ _ _ h => h) ⟨Or.inl ⟨by rfl, ?_⟩, fun _ => rfl⟩ ?_
              rotate_left
              · intro w
                first | (go_simp; done) | (go_simp; with_reducible rfl)
              refine wpAnyIn_ready (rs := [0, 10]) (by kernel_rfl) (by simp) ?_
              refine AllReadyIn.cons rfl (fun K hK => ?_) ?_
              · go_simp
                refine hK _ _ ?_
                clear hK K
                refine wpAnyIn_ready (rs := [10]) (by kernel_rfl) (by simp) ?_
                refine AllReadyIn.cons rfl (fun K hK => ?_) ?_
                · go_simp
                  refine hK _ _ ?_
                  clear hK K
                  refine wpAnyIn_ready (rs := [11]) (by kernel_rfl) (by simp) ?_
                  refine AllReadyIn.cons rfl (fun K hK => ?_) ?_
                  · refine stepIn_append_own _ (by rfl) _ _ _ (by rfl) w.heap.size 41 i0 _ 4 48 Try.underlying37 hi hz0 hz1 hz2 rfl (by decide) (.slice av sl.length cv) sl.length (flatLn (lns d) vs sl) (by rfl) (own_keepT ROW.out (by repeat (first | exact Touch.refl _ _ | refine Touch.alloc ?_ _ | refine Touch.drew ?_ | refine Touch.drewN ?_ _))) _ 1 1 [.int .i64 ((k : Int) + 1), .int .i64 y, .int .i64 z, .slice ak lk ck] (by rfl) (by rfl) (news_new (by repeat (first | exact Touch.refl _ _ | refine Touch.alloc ?_ _ | refine Touch.drew ?_ | refine Touch.drewN ?_ _)) (by simp)) (by intro u hu; simp at hu; rcases hu with rfl | rfl | rfl | rfl <;> rfl) (by unfold maxLen; omega) (by omega) (Nat.le_trans HSZ.out (Touch.size (S := fun _ => False) (w := W4) (by repeat (first | exact Touch.refl _ _ | refine Touch.alloc ?_ _ | refine Touch.drew ?_ | refine Touch.drewN ?_ _)))) ?_
                    intro v4 w4 hown hgrow
                    obtain ⟨a4, k4, hv4⟩ := own_shape hown
                    subst hv4
                    have g0 : w4.heap[w.heap.size + 1]? = some (.cells #[.slice av sl.length cv] 37 (0, 0)) := (hgrow.block _ (Nat.lt_of_lt_of_le (lt_of_block HV.out) (Touch.size (S := fun _ => False) (w := W4) (by repeat (first | exact Touch.refl _ _ | refine Touch.alloc ?_ _ | refine Touch.drew ?_ | refine Touch.drewN ?_ _)))) (fun e => by obtain ⟨c2, h2⟩ := own_blk ROW.out e.symm; exact ne_type HV.out h2 (by decide) rfl)).trans ((Touch.block (S := fun _ => False) (w := W4) (by repeat (first | exact Touch.refl _ _ | refine Touch.alloc ?_ _ | refine Touch.drew ?_ | refine Touch.drewN ?_ _)) _ (lt_of_block HV.out) id).trans HV.out)
                    have g1 := (show Boxed w4 (w.heap.size + 1) 37 (.slice av sl.length cv) from g0).cell
                    have g2 := (show Boxed w4 (w.heap.size + 1) 37 (.slice av sl.length cv) from g0).frozen
                    have OW4 := hid hown
                    have GR4 := hid hgrow
                    clear hown hgrow g0
                    refine hK _ _ ?_
                    clear hK K
                    refine wpAnyIn_ready (rs := [12]) (by kernel_rfl) (by simp) ?_
                    refine AllReadyIn.cons rfl (fun K hK => ?_) ?_
                    · go_simp
                      refine hK _ _ ?_
                      clear hK K
                      refine wpAnyIn_done (by kernel_rfl) ?_ _
                      refine ⟨J4.out.app (by omega) HV.out ROW.out (by repeat (first | exact Touch.refl _ _ | refine Touch.alloc ?_ _ | refine Touch.drew ?_ | refine Touch.drewN ?_ _)) (by have := OW4.out; unfold encLn; dsimp only; rw [← HY.out, ← HZ.out, HVK.out]; exact this) GR4.out, keepsO_app (by repeat (first | exact KeepsOthers.refl _ | refine KeepsOthers.trans ?_ (KeepsOthers.alloc _ _) | refine KeepsOthers.trans ?_ (KeepsOthers.drew _))) (own_keepT ROW.out (by repeat (first | exact Touch.refl _ _ | refine Touch.alloc ?_ _ | refine Touch.drew ?_ | refine Touch.drewN ?_ _))) GR4.out _ _⟩
                    exact AllReadyIn.nil
                  exact AllReadyIn.nil
                exact AllReadyIn.nil
              refine AllReadyIn.cons rfl (fun K hK => ?_) ?_
              · go_simp
                refine hK _ _ ?_
                clear hK K
                refine wpAnyIn_ready (rs := [0]) (by kernel_rfl) (by simp) ?_
                refine AllReadyIn.cons rfl (fun K hK => ?_) ?_
                · go_simp
                  refine hK _ _ ?_
                  clear hK K
                  refine wpAnyIn_ready (rs := [11]) (by kernel_rfl) (by simp) ?_
                  refine AllReadyIn.cons rfl (fun K hK => ?_) ?_
                  · refine stepIn_append_own _ (by rfl) _ _ _ (by rfl) w.heap.size 41 i0 _ 4 48 Try.underlying37 hi hz0 hz1 hz2 rfl (by decide) (.slice av sl.length cv) sl.length (flatLn (lns d) vs sl) (by rfl) (own_keepT ROW.out (by repeat (first | exact Touch.refl _ _ | refine Touch.alloc ?_ _ | refine Touch.drew ?_ | refine Touch.drewN ?_ _))) _ 1 1 [.int .i64 ((k : Int) + 1), .int .i64 y, .int .i64 z, .slice ak lk ck] (by rfl) (by rfl) (news_new (by repeat (first | exact Touch.refl _ _ | refine Touch.alloc ?_ _ | refine Touch.drew ?_ | refine Touch.drewN ?_ _)) (by simp)) (by intro u hu; simp at hu; rcases hu with rfl | rfl | rfl | rfl <;> rfl) (by unfold maxLen; omega) (by omega) (Nat.le_trans HSZ.out (Touch.size (S := fun _ => False) (w := W4) (by repeat (first | exact Touch.refl _ _ | refine Touch.alloc ?_ _ | refine Touch.drew ?_ | refine Touch.drewN ?_ _)))) ?_
                    intro v4 w4 hown hgrow
                    obtain ⟨a4, k4, hv4⟩ := own_shape hown
                    subst hv4
                    have g0 : w4.heap[w.heap.size + 1]? = some (.cells #[.slice av sl.length cv] 37 (0, 0)) := (hgrow.block _ (Nat.lt_of_lt_of_le (lt_of_block HV.out) (Touch.size (S := fun _ => False) (w := W4) (by repeat (first | exact Touch.refl _ _ | refine Touch.alloc ?_ _ | refine Touch.drew ?_ | refine Touch.drewN ?_ _)))) (fun e => by obtain ⟨c2, h2⟩ := own_blk ROW.out e.symm; exact ne_type HV.out h2 (by decide) rfl)).trans ((Touch.block (S := fun _ => False) (w := W4) (by repeat (first | exact Touch.refl _ _ | refine Touch.alloc ?_ _ | refine Touch.drew ?_ | refine Touch.drewN ?_ _)) _ (lt_of_block HV.out) id).trans HV.out)
                    have g1 := (show Boxed w4 (w.heap.size + 1) 37 (.slice av sl.length cv) from g0).cell
                    have g2 := (show Boxed w4 (w.heap.size + 1) 37 (.slice av sl.length cv) from g0).frozen
                    have OW4 := hid hown
                    have GR4 := hid hgrow
                    clear hown hgrow g0
                    refine hK _ _ ?_
                    clear hK K
                    refine wpAnyIn_ready (rs := [12]) (by kernel_rfl) (by simp) ?_
                    refine AllReadyIn.cons rfl (fun K hK => ?_) ?_
                    · go_simp
                      refine hK _ _ ?_
                      clear hK K
                      refine wpAnyIn_done (by kernel_rfl) ?_ _
                      refine ⟨J4.out.app (by omega) HV.out ROW.out (by repeat (first | exact Touch.refl _ _ | refine Touch.alloc ?_ _ | refine Touch.drew ?_ | refine Touch.drewN ?_ _)) (by have := OW4.out; unfold encLn; dsimp only; rw [← HY.out, ← HZ.out, HVK.out]; exact this) GR4.out, keepsO_app (by repeat (first | exact KeepsOthers.refl _ | refine KeepsOthers.trans ?_ (KeepsOthers.alloc _ _) | refine KeepsOthers.trans ?_ (KeepsOthers.drew _))) (own_keepT ROW.out (by repeat (first | exact Touch.refl _ _ | refine Touch.alloc ?_ _ | refine Touch.drew ?_ | refine Touch.drewN ?_ _))) GR4.out _ _⟩
                    exact AllReadyIn.nil
                  exact AllReadyIn.nil
                exact AllReadyIn.nil
              exact AllReadyIn.nil
            exact AllReadyIn.nil
          exact AllReadyIn.nil
        refine AllReadyIn.cons rfl (fun K hK => ?_) ?_
        · go_simp
          refine hK _ _ ?_
          clear hK K
          refine wpAnyIn_take (i := 7) (v := ?_) rfl rfl (by kernel_rfl) (by kernel_rfl) (by kernel_rfl) (fun _ _ _ h => h) ⟨Or.inl ⟨by rfl, ?_⟩, fun _ => rfl⟩ ?_
          rotate_left
          · intro w
            first | (go_simp; done) | (go_simp; with_reducible rfl)
          refine wpAnyIn_ready (rs := [0, 3, 8]) (by kernel_rfl) (by simp) ?_
          refine AllReadyIn.cons rfl (fun K hK => ?_) ?_
          · go_simp
            refine hK _ _ ?_
            clear hK K
            refine wpAnyIn_ready (rs := [3, 8]) (by kernel_rfl) (by simp) ?_
            refine AllReadyIn.cons rfl (fun K hK => ?_) ?_
            · go_simp
              refine hK _ _ ?_
              clear hK K
              refine wpAnyIn_ready (rs := [8]) (by kernel_rfl) (by simp) ?_
              refine AllReadyIn.cons rfl (fun K hK => ?_) ?_
              · go_simp
                refine hK _ _ ?_
                clear hK K
                refine wpAnyIn_take (i := 9) (v := ?_) rfl rfl (by kernel_rfl) (by kernel_rfl) (by kernel_rfl) (fun _ _ _ h => h) ⟨Or.inl ⟨by rfl, ?_⟩, fun _ => rfl⟩ ?_
                rotate_left
                · intro w
                  first | (go_simp; done) | (go_simp; with_reducible rfl)
                refine wpAnyIn_ready (rs := [10]) (by kernel_rfl) (by simp) ?_
                refine AllReadyIn.cons rfl (fun K hK => ?_) ?_
                · go_simp
                  refine hK _ _ ?_
                  clear hK K
                  refine wpAnyIn_ready (rs := [11]) (by kernel_rfl) (by simp) ?_
                  refine AllReadyIn.cons rfl (fun K hK => ?_) ?_
                  · refine stepIn_append_own _ (by rfl) _ _ _ (by rfl) w.heap.size 41 i0 _ 4 48 Try.underlying37 hi hz0 hz1 hz2 rfl (by decide) (.slice av sl.length cv) sl.length (flatLn (lns d) vs sl) (by rfl) (own_keepT ROW.out (by repeat (first | exact Touch.refl _ _ | refine Touch.alloc ?_ _ | refine Touch.drew ?_ | refine Touch.drewN ?_ _))) _ 1 1 [.int .i64 ((k : Int) + 1), .int .i64 y, .int .i64 z, .slice ak lk ck] (by rfl) (by rfl) (news_new (by repeat (first | exact Touch.refl _ _ | refine Touch.alloc ?_ _ | refine Touch.drew ?_ | refine Touch.drewN ?_ _)) (by simp)) (by intro u hu; simp at hu; rcases hu with rfl | rfl | rfl | rfl <;> rfl) (by unfold maxLen; omega) (by omega) (Nat.le_trans HSZ.out (Touch.size (S := fun _ => False) (w := W4) (by repeat (first | exact Touch.refl _ _ | refine Touch.alloc ?_ _ | refine Touch.drew ?_ | refine Touch.drewN ?_ _)))) ?_
                    intro v4 w4 hown hgrow
                    obtain ⟨a4, k4, hv4⟩ := own_shape hown
                    subst hv4
                    have g0 : w4.heap[w.heap.size + 1]? = some (.cells #[.slice av sl.length cv] 37 (0, 0)) := (hgrow.block _ (Nat.lt_of_lt_of_le (lt_of_block HV.out) (Touch.size (S := fun _ => False) (w := W4) (by repeat (first | exact Touch.refl _ _ | refine Touch.alloc ?_ _ | refine Touch.drew ?_ | refine Touch.drewN ?_ _)))) (fun e => by obtain ⟨c2, h2⟩ := own_blk ROW.out e.symm; exact ne_type HV.out h2 (by decide) rfl)).trans ((Touch.block (S := fun _ => False) (w := W4) (by repeat (first | exact Touch.refl _ _ | refine Touch.alloc ?_ _ | refine Touch.drew ?_ | refine Touch.drewN ?_ _)) _ (lt_of_block HV.out) id).trans HV.out)
                    have g1 := (show Boxed w4 (w.heap.size + 1) 37 (.slice av sl.length cv) from g0).cell
                    have g2 := (show Boxed w4 (w.heap.size + 1) 37 (.slice av sl.length cv) from g0).frozen
                    have OW4 := hid hown
                    have GR4 := hid hgrow
                    clear hown hgrow g0
                    refine hK _ _ ?_
                    clear hK K
                    refine wpAnyIn_ready (rs := [12]) (by kernel_rfl) (by simp) ?_
                    refine AllReadyIn.cons rfl (fun K hK => ?_) ?_
                    · go_simp
                      refine hK _ _ ?_
                      clear hK K
                      refine wpAnyIn_done (by kernel_rfl) ?_ _
                      refine ⟨J4.out.app (by omega) HV.out ROW.out (by repeat (first | exact Touch.refl _ _ | refine Touch.alloc ?_ _ | refine Touch.drew ?_ | refine Touch.drewN ?_ _)) (by have := OW4.out; unfold encLn; dsimp only; rw [← HY.out, ← HZ.out, HVK.out]; exact this) GR4.out, keepsO_app (by repeat (first | exact KeepsOthers.refl _ | refine KeepsOthers.trans ?_ (KeepsOthers.alloc _ _) | refine KeepsOthers.trans ?_ (KeepsOthers.drew _))) (own_keepT ROW.out (by repeat (first | exact Touch.refl _ _ | refine Touch.alloc ?_ _ | refine Touch.drew ?_ | refine Touch.drewN ?_ _))) GR4.out _ _⟩
                    exact AllReadyIn.nil
                  exact AllReadyIn.nil
                exact AllReadyIn.nil
              exact AllReadyIn.nil
            refine AllReadyIn.cons rfl (fun K hK => ?_) ?_
            · go_simp
              refine hK _ _ ?_
              clear hK K
              refine wpAnyIn_ready (rs := [3]) (by kernel_rfl) (by simp) ?_
              refine AllReadyIn.cons rfl (fun K hK => ?_) ?_
              · go_simp
                refine hK _ _ ?_
                clear hK K
                refine wpAnyIn_take (i := 9) (v := ?_) rfl rfl (by kernel_rfl) (by kernel_rfl) (by kernel_rfl) (fun _ _ _ h => h) ⟨Or.inl ⟨by rfl, ?_⟩, fun _ => rfl⟩ ?_
                rotate_left
                · intro w
                  first | (go_simp; done) | (go_simp; with_reducible rfl)
                refine wpAnyIn_ready (rs := [10]) (by kernel_rfl) (by simp) ?_
                refine AllReadyIn.cons rfl (fun K hK => ?_) ?_
                · go_simp
                  refine hK _ _ ?_
                  clear hK K
                  refine wpAnyIn_ready (rs := [11]) (by kernel_rfl) (by simp) ?_
                  refine AllReadyIn.cons rfl (fun K hK => ?_) ?_
                  · refine stepIn_append_own _ (by rfl) _ _ _ (by rfl) w.heap.size 41 i0 _ 4 48 Try.underlying37 hi hz0 hz1 hz2 rfl (by decide) (.slice av sl.length cv) sl.length (flatLn (lns d) vs sl) (by rfl) (own_keepT ROW.out (by repeat (first | exact Touch.refl _ _ | refine Touch.alloc ?_ _ | refine Touch.drew ?_ | refine Touch.drewN ?_ _))) _ 1 1 [.int .i64 ((k : Int) + 1), .int .i64 y, .int .i64 z, .slice ak lk ck] (by rfl) (by rfl) (news_new (by repeat (first | exact Touch.refl _ _ | refine Touch.alloc ?_ _ | refine Touch.drew ?_ | refine Touch.drewN ?_ _)) (by simp)) (by intro u hu; simp at hu; rcases hu with rfl | rfl | rfl | rfl <;> rfl) (by unfold maxLen; omega) (by omega) (Nat.le_trans HSZ.out (Touch.size (S := fun _ => False) (w := W4) (by repeat (first | exact Touch.refl _ _ | refine Touch.alloc ?_ _ | refine Touch.drew ?_ | refine Touch.drewN ?_ _)))) ?_
                    intro v4 w4 hown hgrow
                    obtain ⟨a4, k4, hv4⟩ := own_shape hown
                    subst hv4
                    have g0 : w4.heap[w.heap.size + 1]? = some (.cells #[.slice av sl.length cv] 37 (0, 0)) := (hgrow.block _ (Nat.lt_of_lt_of_le (lt_of_block HV.out) (Touch.size (S := fun _ => False) (w := W4) (by repeat (first | exact Touch.refl _ _ | refine Touch.alloc ?_ _ | refine Touch.drew ?_ | refine Touch.drewN ?_ _)))) (fun e => by obtain ⟨c2, h2⟩ := own_blk ROW.out e.symm; exact ne_type HV.out h2 (by decide) rfl)).trans ((Touch.block (S := fun _ => False) (w := W4) (by repeat (first | exact Touch.refl _ _ | refine Touch.alloc ?_ _ | refine Touch.drew ?_ | refine Touch.drewN ?_ _)) _ (lt_of_block HV.out) id).trans HV.out)
                    have g1 := (show Boxed w4 (w.heap.size + 1) 37 (.slice av sl.length cv) from g0).cell
                    have g2 := (show Boxed w4 (w.heap.size + 1) 37 (.slice av sl.length cv) from g0).frozen
                    have OW4 := hid hown
                    have GR4 := hid hgrow
                    clear hown hgrow g0
                    refine hK _ _ ?_
                    clear hK K
                    refine wpAnyIn_ready (rs := [12]) (by kernel_rfl) (by simp) ?_
                    refine AllReadyIn.cons rfl (fun K hK => ?_) ?_
                    · go_simp
                      refine hK _ _ ?_
                      clear hK K
                      refine wpAnyIn_done (by kernel_rfl) ?_ _
                      refine ⟨J4.out.app (by omega) HV.out ROW.out (by repeat (first | exact Touch.refl _ _ | refine Touch.alloc ?_ _ | refine Touch.drew ?_ | refine Touch.drewN ?_ _)) (by have := OW4.out; unfold encLn; dsimp only; rw [← HY.out, ← HZ.out, HVK.out]; exact this) GR4.out, keepsO_app (by repeat (first | exact KeepsOthers.refl _ | refine KeepsOthers.trans ?_ (KeepsOthers.alloc _ _) | refine KeepsOthers.trans ?_ (KeepsOthers.drew _))) (own_keepT ROW.out (by repeat (first | exact Touch.refl _ _ | refine Touch.alloc ?_ _ | refine Touch.drew ?_ | refine Touch.drewN ?_ _))) GR4.out _ _⟩
                    exact AllReadyIn.nil
                  exact AllReadyIn.nil
                exact AllReadyIn.nil
              exact AllReadyIn.nil
            exact AllReadyIn.nil
          refine AllReadyIn.cons rfl (fun K hK => ?_) ?_
          · go_simp
            refine hK _ _ ?_
            clear hK K
            refine wpAnyIn_ready (rs := [0, 8]) (by kernel_rfl) (by simp) ?_
            refine AllReadyIn.cons rfl (fun K hK => ?_) ?_
            · go_simp
              refine hK _ _ ?_
              clear hK K
              refine wpAnyIn_ready (rs := [8]) (by kernel_rfl) (by simp) ?_
              refine AllReadyIn.cons rfl (fun K hK => ?_) ?_
              · go_simp
                refine hK _ _ ?_
                clear hK K
                refine wpAnyIn_take (i := 9) (v := ?_) rfl rfl (by kernel_rfl) (by kernel_rfl) (by kernel_rfl) (fun _ _ _ h => h) ⟨Or.inl ⟨by rfl, ?_⟩, fun _ => rfl⟩ ?_
                rotate_left
                · intro w
                  first | (go_simp; done) | (go_simp; with_reducible rfl)
                refine wpAnyIn_ready (rs := [10]) (by kernel_rfl) (by simp) ?_
                refine AllReadyIn.cons rfl (fun K hK => ?_) ?_
                · go_simp
                  refine hK _ _ ?_
                  clear hK K
                  refine wpAnyIn_ready (rs := [11]) (by kernel_rfl) (by simp) ?_
                  refine AllReadyIn.cons rfl (fun K hK => ?_) ?_
                  · refine stepIn_append_own _ (by rfl) _ _ _ (by rfl) w.heap.size 41 i0 _ 4 48 Try.underlying37 hi hz0 hz1 hz2 rfl (by decide) (.slice av sl.length cv) sl.length (flatLn (lns d) vs sl) (by rfl) (own_keepT ROW.out (by repeat (first | exact Touch.refl _ _ | refine Touch.alloc ?_ _ | refine Touch.drew ?_ | refine Touch.drewN ?_ _))) _ 1 1 [.int .i64 ((k : Int) + 1), .int .i64 y, .int .i64 z, .slice ak lk ck] (by rfl) (by rfl) (news_new (by repeat (first | exact Touch.refl _ _ | refine Touch.alloc ?_ _ | refine Touch.drew ?_ | refine Touch.drewN ?_ _)) (by simp)) (by intro u hu; simp at hu; rcases hu with rfl | rfl | rfl | rfl <;> rfl) (by unfold maxLen; omega) (by omega) (Nat.le_trans HSZ.out (Touch.size (S := fun _ => False) (w := W4) (by repeat (first | exact Touch.refl _ _ | refine Touch.alloc ?_ _ | refine Touch.drew ?_ | refine Touch.drewN ?_ _)))) ?_
                    intro v4 w4 hown hgrow
                    obtain ⟨a4, k4, hv4⟩ := own_shape hown
                    subst hv4
                    have g0 : w4.heap[w.heap.size + 1]? = some (.cells #[.slice av sl.length cv] 37 (0, 0)) := (hgrow.block _ (Nat.lt_of_lt_of_le (lt_of_block HV.out) (Touch.size (S := fun _ => False) (w := W4) (by repeat (first | exact Touch.refl _ _ | refine Touch.alloc ?_ _ | refine Touch.drew ?_ | refine Touch.drewN ?_ _)))) (fun e => by obtain ⟨c2, h2⟩ := own_blk ROW.out e.symm; exact ne_type HV.out h2 (by decide) rfl)).trans ((Touch.block (S := fun _ => False) (w := W4) (by repeat (first | exact Touch.refl _ _ | refine Touch.alloc ?_ _ | refine Touch.drew ?_ | refine Touch.drewN ?_ _)) _ (lt_of_block HV.out) id).trans HV.out)
                    have g1 := (show Boxed w4 (w.heap.size + 1) 37 (.slice av sl.length cv) from g0).cell
                    have g2 := (show Boxed w4 (w.heap.size + 1) 37 (.slice av sl.length cv) from g0).frozen
                    have OW4 := hid hown
                    have GR4 := hid hgrow
                    clear hown hgrow g0
                    refine hK _ _ ?_
                    clear hK K
                    refine wpAnyIn_ready (rs := [12]) (by kernel_rfl) (by simp) ?_
                    refine AllReadyIn.cons rfl (fun K hK => ?_) ?_
                    · go_simp
                      refine hK _ _ ?_
                      clear hK K
                      refine wpAnyIn_done (by kernel_rfl) ?_ _
                      refine ⟨J4.out.app (by omega) HV.out ROW.out (by repeat (first | exact Touch.refl _ _ | refine Touch.alloc ?_ _ | refine Touch.drew ?_ | refine Touch.drewN ?_ _)) (by have := OW4.out; unfold encLn; dsimp only; rw [← HY.out, ← HZ.out, HVK.out]; exact this) GR4.out, keepsO_app (by repeat (first | exact KeepsOthers.refl _ | refine KeepsOthers.trans ?_ (KeepsOthers.alloc _ _) | refine KeepsOthers.trans ?_ (KeepsOthers.drew _))) (own_keepT ROW.out (by repeat (first | exact Touch.refl _ _ | refine Touch.alloc ?_ _ | refine Touch.drew ?_ | refine Touch.drewN ?_ _))) GR4.out _ _⟩
                    exact AllReadyIn.nil
                  exact AllReadyIn.nil
                exact AllReadyIn.nil
              exact AllReadyIn.nil
            refine AllReadyIn.cons rfl (fun K hK => ?_) ?_
            · go_simp
              refine hK _ _ ?_
              clear hK K
              refine wpAnyIn_take (i := 9) (v := ?_) rfl rfl (by kernel_rfl) (by kernel_rfl) (by kernel_rfl) (fun _ _ _ h => h) ⟨Or.inl ⟨by rfl, ?_⟩, fun _ => rfl⟩ ?_
              rotate_left
              · intro w
                first | (go_simp; done) | (go_simp; with_reducible rfl)
              refine wpAnyIn_ready (rs := [0, 10]) (by kernel_rfl) (by simp) ?_
              refine AllReadyIn.cons rfl (fun K hK => ?_) ?_
              · go_simp
                refine hK _ _ ?_
                clear hK K
                refine wpAnyIn_ready (rs := [10]) (by kernel_rfl) (by simp) ?_
                refine AllReadyIn.cons rfl (fun K hK => ?_) ?_
                · go_simp
                  refine hK _ _ ?_
                  clear hK K
                  refine wpAnyIn_ready (rs := [11]) (by kernel_rfl) (by simp) ?_
                  refine AllReadyIn.cons rfl (fun K hK => ?_) ?_
                  · refine stepIn_append_own _ (by rfl) _ _ _ (by rfl) w.heap.size 41 i0 _ 4 48 Try.underlying37 hi hz0 hz1 hz2 rfl (by decide) (.slice av sl.length cv) sl.length (flatLn (lns d) vs sl) (by rfl) (own_keepT ROW.out (by repeat (first | exact Touch.refl _ _ | refine Touch.alloc ?_ _ | refine Touch.drew ?_ | refine Touch.drewN ?_ _))) _ 1 1 [.int .i64 ((k : Int) + 1), .int .i64 y, .int .i64 z, .slice ak lk ck] (by rfl) (by rfl) (news_new (by repeat (first | exact Touch.refl _ _ | refine Touch.alloc ?_ _ | refine Touch.drew ?_ | refine Touch.drewN ?_ _)) (by simp)) (by intro u hu; simp at hu; rcases hu with rfl | rfl | rfl | rfl <;> rfl) (by unfold maxLen; omega) (by omega) (Nat.le_trans HSZ.out (Touch.size (S := fun _ => False) (w := W4) (by repeat (first | exact Touch.refl _ _ | refine Touch.alloc ?_ _ | refine Touch.drew ?_ | refine Touch.drewN ?_ _)))) ?_
                    intro v4 w4 hown hgrow
                    obtain ⟨a4, k4, hv4⟩ := own_shape hown
                    subst hv4
                    have g0 : w4.heap[w.heap.size + 1]? = some (.cells #[.slice av sl.length cv] 37 (0, 0)) := (hgrow.block _ (Nat.lt_of_lt_of_le (lt_of_block HV.out) (Touch.size (S := fun _ => False) (w := W4) (by repeat (first | exact Touch.refl _ _ | refine Touch.alloc ?_ _ | refine Touch.drew ?_ | refine Touch.drewN ?_ _)))) (fun e => by obtain ⟨c2, h2⟩ := own_blk ROW.out e.symm; exact ne_type HV.out h2 (by decide) rfl)).trans ((Touch.block (S := fun _ => False) (w := W4) (by repeat (first | exact Touch.refl _ _ | refine Touch.alloc ?_ _ | refine Touch.drew ?_ | refine Touch.drewN ?_ _)) _ (lt_of_block HV.out) id).trans HV.out)
                    have g1 := (show Boxed w4 (w.heap.size + 1) 37 (.slice av sl.length cv) from g0).cell
                    have g2 := (show Boxed w4 (w.heap.size + 1) 37 (.slice av sl.length cv) from g0).frozen
                    have OW4 := hid hown
                    have GR4 := hid hgrow
                    clear hown hgrow g0
                    refine hK _ _ ?_
                    clear hK K
                    refine wpAnyIn_ready (rs := [12]) (by kernel_rfl) (by simp) ?_
                    refine AllReadyIn.cons rfl (fun K hK => ?_) ?_
                    · go_simp
                      refine hK _ _ ?_
                      clear hK K
                      refine wpAnyIn_done (by kernel_rfl) ?_ _
                      refine ⟨J4.out.app (by omega) HV.out ROW.out (by repeat (first | exact Touch.refl _ _ | refine Touch.alloc ?_ _ | refine Touch.drew ?_ | refine Touch.drewN ?_ _)) (by have := OW4.out; unfold encLn; dsimp only; rw [← HY.out, ← HZ.out, HVK.out]; exact this) GR4.out, keepsO_app (by repeat (first | exact KeepsOthers.refl _ | refine KeepsOthers.trans ?_ (KeepsOthers.alloc _ _) | refine KeepsOthers.trans ?_ (KeepsOthers.drew _))) (own_keepT ROW.out (by repeat (first | exact Touch.refl _ _ | refine Touch.alloc ?_ _ | refine Touch.drew ?_ | refine Touch.drewN ?_ _))) GR4.out _ _⟩
                    exact AllReadyIn.nil
                  exact AllReadyIn.nil
                exact AllReadyIn.nil
              refine AllReadyIn.cons rfl (fun K hK => ?_) ?_
              · go_simp
                refine hK _ _ ?_
                clear hK K
                refine wpAnyIn_ready (rs := [0]) (by kernel_rfl) (by simp) ?_
                refine AllReadyIn.cons rfl (fun K hK => ?_) ?_
                · go_simp
                  refine hK _ _ ?_
                  clear hK K
                  refine wpAnyIn_ready (rs := [11]) (by kernel_rfl) (by simp) ?_
                  refine AllReadyIn.cons rfl (fun K hK => ?_) ?_
                  · refine stepIn_append_own _ (by rfl) _ _ _ (by rfl) w.heap.size 41 i0 _ 4 48 Try.underlying37 hi hz0 hz1 hz2 rfl (by decide) (.slice av sl.length cv) sl.length (flatLn (lns d) vs sl) (by rfl) (own_keepT ROW.out (by repeat (first | exact Touch.refl _ _ | refine Touch.alloc ?_ _ | refine Touch.drew ?_ | refine Touch.drewN ?_ _))) _ 1 1 [.int .i64 ((k : Int) + 1), .int .i64 y, .int .i64 z, .slice ak lk ck] (by rfl) (by rfl) (news_new (by repeat (first | exact Touch.refl _ _ | refine Touch.alloc ?_ _ | refine Touch.drew ?_ | refine Touch.drewN ?_ _)) (by simp)) (by intro u hu; simp at hu; rcases hu with rfl | rfl | rfl | rfl <;> rfl) (by unfold maxLen; omega) (by omega) (Nat.le_trans HSZ.out (Touch.size (S := fun _ => False) (w := W4) (by repeat (first | exact Touch.refl _ _ | refine Touch.alloc ?_ _ | refine Touch.drew ?_ | refine Touch.drewN ?_ _)))) ?_
                    intro v4 w4 hown hgrow
                    obtain ⟨a4, k4, hv4⟩ := own_shape hown
                    subst hv4
                    have g0 : w4.heap[w.heap.size + 1]? = some (.cells #[.slice av sl.length cv] 37 (0, 0)) := (hgrow.block _ (Nat.lt_of_lt_of_le (lt_of_block HV.out) (Touch.size (S := fun _ => False) (w := W4) (by repeat (first | exact Touch.refl _ _ | refine Touch.alloc ?_ _ | refine Touch.drew ?_ | refine Touch.drewN ?_ _)))) (fun e => by obtain ⟨c2, h2⟩ := own_blk ROW.out e.symm; exact ne_type HV.out h2 (by decide) rfl)).trans ((Touch.block (S := fun _ => False) (w := W4) (by repeat (first | exact Touch.refl _ _ | refine Touch.alloc ?_ _ | refine Touch.drew ?_ | refine Touch.drewN ?_ _)) _ (lt_of_block HV.out) id).trans HV.out)
                    have g1 := (show Boxed w4 (w.heap.size + 1) 37 (.slice av sl.length cv) from g0).cell
                    have g2 := (show Boxed w4 (w.heap.size + 1) 37 (.slice av sl.length cv) from g0).frozen
                    have OW4 := hid hown
                    have GR4 := hid hgrow
                    clear hown hgrow g0
                    refine hK _ _ ?_
                    clear hK K
                    refine wpAnyIn_ready (rs := [12]) (by kernel_rfl) (by simp) ?_
                    refine AllReadyIn.cons rfl (fun K hK => ?_) ?_
                    · go_simp
                      refine hK _ _ ?_
                      clear hK K
                      refine wpAnyIn_done (by kernel_rfl) ?_ _
                      refine ⟨J4.out.app (by omega) HV.out ROW.out (by repeat (first | exact Touch.refl _ _ | refine Touch.alloc ?_ _ | refine Touch.drew ?_ | refine Touch.drewN ?_ _)) (by have := OW4.out; unfold encLn; dsimp only; rw [← HY.out, ← HZ.out, HVK.out]; exact this) GR4.out, keepsO_app (by repeat (first | exact KeepsOthers.refl _ | refine KeepsOthers.trans ?_ (KeepsOthers.alloc _ _) | refine KeepsOthers.trans ?_ (KeepsOthers.drew _))) (own_keepT ROW.out (by repeat (first | exact Touch.refl _ _ | refine Touch.alloc ?_ _ | refine Touch.drew ?_ | refine Touch.drewN ?_ _))) GR4.out _ _⟩
                    exact AllReadyIn.nil
                  exact AllReadyIn.nil
                exact AllReadyIn.nil
              exact AllReadyIn.nil
            exact AllReadyIn.nil
          refine AllReadyIn.cons rfl (fun K hK => ?_) ?_
          · go_simp
            refine hK _ _ ?_
            clear hK K
            refine wpAnyIn_ready (rs := [0, 3]) (by kernel_rfl) (by simp) ?_
            refine AllReadyIn.cons rfl (fun K hK => ?_) ?_
            · go_simp
              refine hK _ _ ?_
              clear hK K
              refine wpAnyIn_ready (rs := [3]) (by kernel_rfl) (by simp) ?_
              refine AllReadyIn.cons rfl (fun K hK => ?_) ?_
              · go_simp
                refine hK _ _ ?_
                clear hK K
                refine wpAnyIn_take (i := 9) (v := ?_) rfl rfl (by kernel_rfl) (by kernel_rfl) (by kernel_rfl) (fun _ _ _ h => h) ⟨Or.inl ⟨by rfl, ?_⟩, fun _ => rfl⟩ ?_
                rotate_left
                · intro w
                  first | (go_simp; done) | (go_simp; with_reducible rfl)
                refine wpAnyIn_ready (rs := [10]) (by kernel_rfl) (by simp) ?_
                refine AllReadyIn.cons rfl (fun K hK => ?_) ?_
                · go_simp
                  refine hK _ _ ?_
                  clear hK K
                  refine wpAnyIn_ready (rs := [11]) (by kernel_rfl) (by simp) ?_
                  refine AllReadyIn.cons rfl (fun K hK => ?_) ?_
                  · refine stepIn_append_own _ (by rfl) _ _ _ (by rfl) w.heap.size 41 i0 _ 4 48 Try.underlying37 hi hz0 hz1 hz2 rfl (by decide) (.slice av sl.length cv) sl.length (flatLn (lns d) vs sl) (by rfl) (own_keepT ROW.out (by repeat (first | exact Touch.refl _ _ | refine Touch.alloc ?_ _ | refine Touch.drew ?_ | refine Touch.drewN ?_ _))) _ 1 1 [.int .i64 ((k : Int) + 1), .int .i64 y, .int .i64 z, .slice ak lk ck] (by rfl) (by rfl) (news_new (by repeat (first | exact Touch.refl _ _ | refine Touch.alloc ?_ _ | refine Touch.drew ?_ | refine Touch.drewN ?_ _)) (by simp)) (by intro u hu; simp at hu; rcases hu with rfl | rfl | rfl | rfl <;> rfl) (by unfold maxLen; omega) (by omega) (Nat.le_trans HSZ.out (Touch.size (S := fun _ => False) (w := W4) (by repeat (first | exact Touch.refl _ _ | refine Touch.alloc ?_ _ | refine Touch.drew ?_ | refine Touch.drewN ?_ _)))) ?_
                    intro v4 w4 hown hgrow
                    obtain ⟨a4, k4, hv4⟩ := own_shape hown
                    subst hv4
                    have g0 : w4.heap[w.heap.size + 1]? = some (.cells #[.slice av sl.length cv] 37 (0, 0)) := (hgrow.block _ (Nat.lt_of_lt_of_le (lt_of_block HV.out) (Touch.size (S := fun _ => False) (w := W4) (by repeat (first | exact Touch.refl _ _ | refine Touch.alloc ?_ _ | refine Touch.drew ?_ | refine Touch.drewN ?_ _)))) (fun e => by obtain ⟨c2, h2⟩ := own_blk ROW.out e.symm; exact ne_type HV.out h2 (by decide) rfl)).trans ((Touch.block (S := fun _ => False) (w := W4) (by repeat (first | exact Touch.refl _ _ | refine Touch.alloc ?_ _ | refine Touch.drew ?_ | refine Touch.drewN ?_ _)) _ (lt_of_block HV.out) id).trans HV.out)
                    have g1 := (show Boxed w4 (w.heap.size + 1) 37 (.slice av sl.length cv) from g0).cell
                    have g2 := (show Boxed w4 (w.heap.size + 1) 37 (.slice av sl.length cv) from g0).frozen
                    have OW4 := hid hown
                    have GR4 := hid hgrow
                    clear hown hgrow g0
                    refine hK _ _ ?_
                    clear hK K
                    refine wpAnyIn_ready (rs := [12]) (by kernel_rfl) (by simp) ?_
                    refine AllReadyIn.cons rfl (fun K hK => ?_) ?_
                    · go_simp
                      refine hK _ _ ?_
                      clear hK K
                      refine wpAnyIn_done (by kernel_rfl) ?_ _
                      refine ⟨J4.out.app (by omega) HV.out ROW.out (by repeat (first | exact Touch.refl _ _ | refine Touch.alloc ?_ _ | refine Touch.drew ?_ | refine Touch.drewN ?_ _)) (by have := OW4.out; unfold encLn; dsimp only; rw [← HY.out, ← HZ.out, HVK.out]; exact this) GR4.out, keepsO_app (by repeat (first | exact KeepsOthers.refl _ | refine KeepsOthers.trans ?_ (KeepsOthers.alloc _ _) | refine KeepsOthers.trans ?_ (KeepsOthers.drew _))) (own_keepT ROW.out (by repeat (first | exact Touch.refl _ _ | refine Touch.alloc ?_ _ | refine Touch.drew ?_ | refine Touch.drewN ?_ _))) GR4.out _ _⟩
                    exact AllReadyIn.nil
                  exact AllReadyIn.nil
                exact AllReadyIn.nil
              exact AllReadyIn.nil
            refine AllReadyIn.cons rfl (fun K hK => ?_) ?_
            · go_simp
              refine hK _ _ ?_
              clear hK K
              refine wpAnyIn_take (i := 9) (v := ?_) rfl rfl (by kernel_rfl) (by kernel_rfl) (by kernel_rfl) (fun _ _ _ h => h) ⟨Or.inl ⟨by rfl, ?_⟩, fun _ => rfl⟩ ?_
              rotate_left
              · intro w
                first | (go_simp; done) | (go_simp; with_reducible rfl)
              refine wpAnyIn_ready (rs := [0, 10]) (by kernel_rfl) (by simp) ?_
              refine AllReadyIn.cons rfl (fun K hK => ?_) ?_
              · go_simp
                refine hK _ _ ?_
                clear hK K
                refine wpAnyIn_ready (rs := [10]) (by kernel_rfl) (by simp) ?_
                refine AllReadyIn.cons rfl (fun K hK => ?_) ?_
                · go_simp
                  refine hK _ _ ?_
                  clear hK K
                  refine wpAnyIn_ready (rs := [11]) (by kernel_rfl) (by simp) ?_
                  refine AllReadyIn.cons rfl (fun K hK => ?_) ?_
                  · refine stepIn_append_own _ (by rfl) _ _ _ (by rfl) w.heap.size 41 i0 _ 4 48 Try.underlying37 hi hz0 hz1 hz2 rfl (by decide) (.slice av sl.length cv) sl.length (flatLn (lns d) vs sl) (by rfl) (own_keepT ROW.out (by repeat (first | exact Touch.refl _ _ | refine Touch.alloc ?_ _ | refine Touch.drew ?_ | refine Touch.drewN ?_ _))) _ 1 1 [.int .i64 ((k : Int) + 1), .int .i64 y, .int .i64 z, .slice ak lk ck] (by rfl) (by rfl) (news_new (by repeat (first | exact Touch.refl _ _ | refine Touch.alloc ?_ _ | refine Touch.drew ?_ | refine Touch.drewN ?_ _)) (by simp)) (by intro u hu; simp at hu; rcases hu with rfl | rfl | rfl | rfl <;> rfl) (by unfold maxLen; omega) (by omega) (Nat.le_trans HSZ.out (Touch.size (S := fun _ => False) (w := W4) (by repeat (first | exact Touch.refl _ _ | refine Touch.alloc ?_ _ | refine Touch.drew ?_ | refine Touch.drewN ?_ _)))) ?_
                    intro v4 w4 hown hgrow
                    obtain ⟨a4, k4, hv4⟩ := own_shape hown
                    subst hv4
                    have g0 : w4.heap[w.heap.size + 1]? = some (.cells #[.slice av sl.length cv] 37 (0, 0)) := (hgrow.block _ (Nat.lt_of_lt_of_le (lt_of_block HV.out) (Touch.size (S := fun _ => False) (w := W4) (by repeat (first | exact Touch.refl _ _ | refine Touch.alloc ?_ _ | refine Touch.drew ?_ | refine Touch.drewN ?_ _)))) (fun e => by obtain ⟨c2, h2⟩ := own_blk ROW.out e.symm; exact ne_type HV.out h2 (by decide) rfl)).trans ((Touch.block (S := fun _ => False) (w := W4) (by repeat (first | exact Touch.refl _ _ | refine Touch.alloc ?_ _ | refine Touch.drew ?_ | refine Touch.drewN ?_ _)) _ (lt_of_block HV.out) id).trans HV.out)
                    have g1 := (show Boxed w4 (w.heap.size + 1) 37 (.slice av sl.length cv) from g0).cell
                    have g2 := (show Boxed w4 (w.heap.size + 1) 37 (.slice av sl.length cv) from g0).frozen
                    have OW4 := hid hown
                    have GR4 := hid hgrow
                    clear hown hgrow g0
                    refine hK _ _ ?_
                    clear hK K
                    refine wpAnyIn_ready (rs := [12]) (by kernel_rfl) (by simp) ?_
                    refine AllReadyIn.cons rfl (fun K hK => ?_) ?_
                    · go_simp
                      refine hK _ _ ?_
                      clear hK K
                      refine wpAnyIn_done (by kernel_rfl) ?_ _
                      refine ⟨J4.out.app (by omega) HV.out ROW.out (by repeat (first | exact Touch.refl _ _ | refine Touch.alloc ?_ _ | refine Touch.drew ?_ | refine Touch.drewN ?_ _)) (by have := OW4.out; unfold encLn; dsimp only; rw [← HY.out, ← HZ.out, HVK.out]; exact this) GR4.out, keepsO_app (by repeat (first | exact KeepsOthers.refl _ | refine KeepsOthers.trans ?_ (KeepsOthers.alloc _ _) | refine KeepsOthers.trans ?_ (KeepsOthers.drew _))) (own_keepT ROW.out (by repeat (first | exact Touch.refl _ _ | refine Touch.alloc ?_ _ | refine Touch.drew ?_ | refine Touch.drewN ?_ _))) GR4.out _ _⟩
                    exact AllReadyIn.nil
                  exact AllReadyIn.nil
                exact AllReadyIn.nil
              refine AllReadyIn.cons rfl (fun K hK => ?_) ?_
              · go_simp
                refine hK _ _ ?_
                clear hK K
                refine wpAnyIn_ready (rs := [0]) (by kernel_rfl) (by simp) ?_
                refine AllReadyIn.cons rfl (fun K hK => ?_) ?_
                · go_simp
                  refine hK _ _ ?_
                  clear hK K
                  refine wpAnyIn_ready (rs := [11]) (by kernel_rfl) (by simp) ?_
                  refine AllReadyIn.cons rfl (fun K hK => ?_) ?_
                  · refine stepIn_append_own _ (by rfl) _ _ _ (by rfl) w.heap.size 41 i0 _ 4 48 Try.underlying37 hi hz0 hz1 hz2 rfl (by decide) (.slice av sl.length cv) sl.length (flatLn (lns d) vs sl) (by rfl) (own_keepT ROW.out (by repeat (first | exact Touch.refl _ _ | refine Touch.alloc ?_ _ | refine Touch.drew ?_ | refine Touch.drewN ?_ _))) _ 1 1 [.int .i64 ((k : Int) + 1), .int .i64 y, .int .i64 z, .slice ak lk ck] (by rfl) (by rfl) (news_new (by repeat (first | exact Touch.refl _ _ | refine Touch.alloc ?_ _ | refine Touch.drew ?_ | refine Touch.drewN ?_ _)) (by simp)) (by intro u hu; simp at hu; rcases hu with rfl | rfl | rfl | rfl <;> rfl) (by unfold maxLen; omega) (by omega) (Nat.le_trans HSZ.out (Touch.size (S := fun _ => False) (w := W4) (by repeat (first | exact Touch.refl _ _ | refine Touch.alloc ?_ _ | refine Touch.drew ?_ | refine Touch.drewN ?_ _)))) ?_
                    intro v4 w4 hown hgrow
                    obtain ⟨a4, k4, hv4⟩ := own_shape hown
                    subst hv4
                    have g0 : w4.heap[w.heap.size + 1]? = some (.cells #[.slice av sl.length cv] 37 (0, 0)) := (hgrow.block _ (Nat.lt_of_lt_of_le (lt_of_block HV.out) (Touch.size (S := fun _ => False) (w := W4) (by repeat (first | exact Touch.refl _ _ | refine Touch.alloc ?_ _ | refine Touch.drew ?_ | refine Touch.drewN ?_ _)))) (fun e => by obtain ⟨c2, h2⟩ := own_blk ROW.out e.symm; exact ne_type HV.out h2 (by decide) rfl)).trans ((Touch.block (S := fun _ => False) (w := W4) (by repeat (first | exact Touch.refl _ _ | refine Touch.alloc ?_ _ | refine Touch.drew ?_ | refine Touch.drewN ?_ _)) _ (lt_of_block HV.out) id).trans HV.out)
                    have g1 := (show Boxed w4 (w.heap.size + 1) 37 (.slice av sl.length cv) from g0).cell
                    have g2 := (show Boxed w4 (w.heap.size + 1) 37 (.slice av sl.length cv) from g0).frozen
                    have OW4 := hid hown
                    have GR4 := hid hgrow
                    clear hown hgrow g0
                    refine hK _ _ ?_
                    clear hK K
                    refine wpAnyIn_ready (rs := [12]) (by kernel_rfl) (by simp) ?_
                    refine AllReadyIn.cons rfl (fun K hK => ?_) ?_
                    · go_simp
                      refine hK _ _ ?_
                      clear hK K
                      refine wpAnyIn_done (by kernel_rfl) ?_ _
                      refine ⟨J4.out.app (by omega) HV.out ROW.out (by repeat (first | exact Touch.refl _ _ | refine Touch.alloc ?_ _ | refine Touch.drew ?_ | refine Touch.drewN ?_ _)) (by have := OW4.out; unfold encLn; dsimp only; rw [← HY.out, ← HZ.out, HVK.out]; exact this) GR4.out, keepsO_app (by repeat (first | exact KeepsOthers.refl _ | refine KeepsOthers.trans ?_ (KeepsOthers.alloc _ _) | refine KeepsOthers.trans ?_ (KeepsOthers.drew _))) (own_keepT ROW.out (by repeat (first | exact Touch.refl _ _ | refine Touch.alloc ?_ _ | refine Touch.drew ?_ | refine Touch.drewN ?_ _))) GR4.out _ _⟩
                    exact AllReadyIn.nil
                  exact AllReadyIn.nil
                exact AllReadyIn.nil
              exact AllReadyIn.nil
            exact AllReadyIn.nil
          exact AllReadyIn.nil
        exact AllReadyIn.nil
      rintro e a' w' h
      cases e <;> first | exact h.elim | skip
      refine ⟨(K4.out.trans h.2).from _, fun _ => h.1.bx, ?_⟩
      show SelJ _ _ _ _ _ _ _ _ _ _ _ _ _ _ _ _
      rw [SNX.out]
      exact h.1
    · have hsel : (decide (0 < ox) != inv) = false := by assumption
      refine ⟨K4.out.from _, fun _ => J4.out.bx, ?_⟩
      show SelJ _ _ _ _ _ _ _ _ _ _ _ _ _ _ _ _
      rw [HSN.out]
      unfold stStep
      dsimp only
      rw [← HOV.out, ← HC.out, ← HOX.out, hsel, if_neg (by decide), List.append_nil]
      exact J4.out
end Go.Proofs.Ytaidcapflcobiaa
