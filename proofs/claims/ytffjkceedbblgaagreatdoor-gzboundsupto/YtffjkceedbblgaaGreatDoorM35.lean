/- Texts of this proof, one behind the other: what each says stands ahead of it. -/
import Derived.Test.YtffjkceedbblgaaGreatDoorM34
/- Read, of any bytes: the parts of a file; conditions: those told. -/
namespace Go.Proofs.YtffjkceedbblgaaGreatDoor
open Go.RowKit

def flatP (l : List Gz.Part) : List Value := l.flatMap fun p => (partC p).toList
theorem flatP_append (l m : List Gz.Part) : flatP (l ++ m) = flatP l ++ flatP m := by unfold flatP; rw [List.flatMap_append]
theorem flatP_length (l : List Gz.Part) : (flatP l).length = 9 * l.length := by
  induction l with
  | nil => rfl
  | cons x l ih =>
    have e : flatP (x :: l) = (partC x).toList ++ flatP l := rfl
    rw [e, List.length_append, ih, List.length_cons]
    show 9 + 9 * l.length = _
    omega
theorem flatP_one (l : List Gz.Part) : ∀ u ∈ flatP l, u.oneCell' = true := by
  intro u hu
  unfold flatP at hu
  obtain ⟨x, _, hx⟩ := List.mem_flatMap.1 hu
  simp [partC] at hx
  rcases hx with rfl | rfl | rfl | rfl | rfl | rfl | rfl | rfl | rfl <;> rfl
theorem own_ty {w : World} {e sz n : Nat} {v : Value} {xs : List Value} (h : w.ownsRow 0 e sz v n xs) {g : Nat} (hg : v.ownBlock = some g) : ∃ cur, w.heap[g]? = some (.cells cur e (0, 0)) := by
  rcases h.2 with ⟨rfl, _⟩ | ⟨b, cap, cur, rfl, _, hh, _⟩
  · simp [Value.ownBlock] at hg
  · simp [Value.ownBlock] at hg
    subst hg
    exact ⟨cur, hh⟩
theorem own_keptG {w w' : World} {e sz n : Nat} {v : Value} {xs : List Value} (h : w.ownsRow 0 e sz v n xs) (hb : ∀ g, v.ownBlock = some g → w'.heap[g]? = w.heap[g]?) : w'.ownsRow 0 e sz v n xs := by
  refine ⟨h.1, ?_⟩
  rcases h.2 with h0 | ⟨g, cap, cur, rfl, hg, hh, rest⟩
  · exact .inl h0
  · exact .inr ⟨g, cap, cur, rfl, hg, (hb g rfl).trans hh, rest⟩
/-- A list of parts that is the call's own; its elements are of type e. -/
structure OwP (e : TypeId) (W0 wr : World) (v : Value) (l : List Gz.Part) : Prop where
  own : wr.ownsRow 0 e 9 v l.length (flatP l)
  new : ∀ g, v.ownBlock = some g → W0.heap.size ≤ g
theorem OwP.nil (e : TypeId) (w w' : World) : OwP e w w' (.slice none 0 0) [] := ⟨by simpa [flatP] using World.ownsRow_nil _ _ _ _, by intro g h; simp [Value.ownBlock] at h⟩
theorem OwP.touch {e : TypeId} {W0 w w' : World} {v : Value} {l : List Gz.Part} {S : Nat → Prop} (h : OwP e W0 w v l) (t : Touch S w w') (hS : ∀ g, v.ownBlock = some g → ¬ S g) : OwP e W0 w' v l :=
  ⟨own_keptG h.own (fun g hg => t.block _ (lt_of_block (own_ty h.own hg).choose_spec) (hS g hg)), h.new⟩
theorem OwP.still {e : TypeId} {W0 w w' : World} {v : Value} {l : List Gz.Part} (h : OwP e W0 w v l) (t : Touch (fun _ => False) w w') : OwP e W0 w' v l := h.touch t (fun _ _ e => e)
theorem OwP.ne {e : TypeId} {W0 w : World} {v : Value} {l : List Gz.Part} (h : OwP e W0 w v l) {b : Nat} {cs : Array Value} {ty : TypeId} (hb : w.heap[b]? = some (.cells cs ty (0, 0))) (hne : ty ≠ e) : v.ownBlock ≠ some b := fun hg => by
  obtain ⟨cur, hc⟩ := own_ty h.own hg
  rw [hb] at hc
  simp at hc
  exact hne hc.2
theorem OwP.app {e : TypeId} {W0 w w1 : World} {v v' : Value} {l : List Gz.Part} {x : Gz.Part} (h : OwP e W0 w v l) (H : Nat) (h0 : W0.heap.size ≤ H) (hown : w1.ownsRow 0 e 9 v' (l.length + 1) (flatP l ++ flatP [x])) (hat : v'.ownBlock = v.ownBlock ∨ v'.ownBlock = some H) : OwP e W0 w1 v' (l ++ [x]) := by
  refine ⟨by rw [List.length_append, flatP_append]; exact hown, fun g e => ?_⟩
  rcases hat with k | k
  · exact h.new g (by rw [← k]; exact e)
  · rw [k] at e
    simp at e
    omega
theorem newsP {w : World} {x : Gz.Part} {e : TypeId} : ∀ j u, (flatP [x])[j]? = some u → (w.alloc (.cells (partC x) e)).cell? ((⟨w.heap.size, 0, none⟩ : Addr).add j) = some u := by
  intro j u hj
  rw [add_zero, blk_cell (cells_new w (partC x) e) j, ← hj]
  simp [flatP]
theorem info30f : (Tryz.prog.info? 28).map (fun i => (i.zero, i.size, i.bytes)) = some (some (.agg #[.string ⟨#[]⟩, .string ⟨#[]⟩, .string ⟨#[]⟩, .bool false, .bool false, .int .i64 0, .int .i64 0, .int .i64 0, .string ⟨#[]⟩]), 9, 96) := by kernel_rfl
/-- What Read answers. -/
def RPost (e0 : TypeId) (w : World) : Except Gz.Bad (List Gz.Part) → Ending → World → Prop
  | .error y, e, w' => e = .returned (.tuple #[.slice none 0 0, .agg #[.int .i64 (y.1 : Nat), .int .i64 (y.2 : Nat)]]) ∧ Touch (fun _ => False) w w'
  | .ok l, e, w' => ∃ v, e = .returned (.tuple #[v, .agg #[.int .i64 0, .int .i64 0]]) ∧ OwP e0 w w' v l ∧ Touch (fun _ => False) w w'
set_option maxRecDepth 100000 in
theorem read_neg (s : ByteArray) (most : Int) (w : World) (h : most < 0) : Calls Tryz.prog 9 #[.string s, .int .i64 most] w fun e w' => e = .returned (.tuple #[.slice none 0 0, .agg #[.int .i64 1, .int .i64 0]]) ∧ Touch (fun _ => False) w w' := by
  have FB := hid (two_new (w := w) (.int .i64 1) (.int .i64 0) 31)
  go_enter Tryz.func9, Tryz.ntmps9
  go_wp2
  refine bodyPost_ret (results_tc rfl _ _ w.heap.size 31 _ (0, 0) _ rfl FB.out Tryz.underlying31 rfl (by kernel_rfl)) rfl ?_
  exact ⟨rfl, (Touch.refl _ w).alloc _⟩
structure RdS (w wq : World) (rb q5 : Nat) (s : ByteArray) (most t m : Nat) (v : Value) (l : List Gz.Part) : Prop where
  gr : Gr wq rb s t
  le : t ≤ s.size
  own : OwP 28 w wq v l
  upto : Gz.Upto s most t m l
  touch : Touch (fun _ => False) w wq
  res : wq.heap[q5]? = some (.cells #[.int .i64 0, .int .i64 0] 31 (0, 0))
  quart : Quart wq
  few : l.length ≤ 1024
  bound : m ≤ most
set_option maxRecDepth 100000 in
set_option maxHeartbeats 8000000 in
theorem read_any (s : ByteArray) (most : Nat) (w : World) (hq : Quart w) (hs : s.size ≤ 140737488) (hm : most ≤ 9223372036854775807) :
    Calls Tryz.prog 9 #[.string s, .int .i64 (most : Nat)] w fun e w' => ∃ r, Gz.Rd s 0 most 0 r ∧ RPost 28 w r e w' := by
  obtain ⟨i0, hi30, hz0, hz1, hz2⟩ := info_parts info30f
  have hmI : ¬ ((most : Int) < 0) := by omega
  have B0 : ((w.alloc (.cells #[.int .i64 0, .int .i64 0] 31)).alloc (.cells #[.string s, .int .i64 0] 55)).heap[w.heap.size + 1]? = some (.cells #[.string s, .int .i64 0] 55 (0, 0)) := by
    have hsz : (w.alloc (.cells #[.int .i64 0, .int .i64 0] 31)).heap.size = w.heap.size + 1 := by simp
    rw [← hsz]
    exact cells_new _ _ _
  have B1 := (((Touch.refl (fun _ => False) (w.alloc (.cells #[.int .i64 0, .int .i64 0] 31))).alloc (.cells #[.string s, .int .i64 0] 55)).still (cells_new w #[.int .i64 0, .int .i64 0] 31))
  have TA : Touch (fun _ => False) w ((w.alloc (.cells #[.int .i64 0, .int .i64 0] 31)).alloc (.cells #[.string s, .int .i64 0] 55)) := ((Touch.refl _ w).alloc _).alloc _
  have S0 := hid (show RdS w ((w.alloc (.cells #[.int .i64 0, .int .i64 0] 31)).alloc (.cells #[.string s, .int .i64 0] 55)) (w.heap.size + 1) w.heap.size s most 0 most (.slice none 0 0) [] from
    ⟨B0, Nat.zero_le _, OwP.nil _ _ _, Gz.Upto.zero s most, TA, B1, hq.new TA id, by simp, Nat.le_refl _⟩)
  have HQ0 := hid (show 0 < w.heap.size from by obtain ⟨_, h⟩ := hq; exact lt_of_block h)
  clear B0 B1 TA hq
  go_enter Tryz.func9, Tryz.ntmps9
  go_upto_region 4 with fail
  generalize (w.alloc (.cells #[.int .i64 0, .int .i64 0] 31)).alloc (.cells #[.string s, .int .i64 0] 55) = w0 at *
  obtain ⟨q5, hq5⟩ : ∃ q5, q5 = w.heap.size := ⟨_, rfl⟩
  rw [← hq5] at S0 ⊢
  obtain ⟨rb, hrb⟩ : ∃ rb, rb = q5 + 1 := ⟨_, rfl⟩
  rw [← hrb] at S0 ⊢
  have HQ := hid (show w.heap.size ≤ q5 ∧ q5 < rb ∧ rb ≠ 0 from ⟨by omega, by omega, by omega⟩)
  have HW0 := hid (show 0 < w.heap.size from HQ0.out)
  clear hq5 hrb HQ0
  go_wp2_with fail
  go_loopg [1, 7] (s.size + 1) (fun gk v1 v7 wq => ∃ (t m : Nat) (l : List Gz.Part), v1 = .int .i64 (m : Nat) ∧ RdS w wq rb q5 s most t m v7 l ∧ s.size - t + 1 ≤ gk)
  case atStart => exact ⟨0, most, [], rfl, S0.out, by omega⟩
  case round =>
    obtain ⟨t, m, l, rfl, hst, hgk⟩ := hrel
    have ST := hid hst
    have hfew := hst.few
    have hle := hst.le
    have hbd := hst.bound
    obtain ⟨a7, c7, hv7⟩ := own_shape hst.own.own
    subst hv7
    have c1 := hst.gr.c1
    clear hst S0
    by_cases hl0 : l.length = 0
    · obtain ⟨g, rfl⟩ : ∃ g, gk = g + 1 := ⟨gk - 1, by omega⟩
      have HGO := hid (show l.length = 0 ∨ t < s.size from .inl hl0)
      have hl0I : ((l.length : Int) == 0) = true := by rw [beq_iff_eq]; omega
      have hmy : ((l.length : Int) == 1024) = false := by rw [beq_eq_false_iff_ne]; omega
      have HMY := hid (show l.length < 1024 by omega)
      have KP := hid (part_any rb s t m wr ST.out.gr ST.out.quart HQ.out.2.2 hs ST.out.le (by omega))
      clear hl0
      go_wp2_with fail
      refine KP.out.mono ?_
      rintro e w1 ⟨r, hpr, hpost⟩
      clear KP
      cases r with
      | error y =>
        obtain ⟨rfl, hyc, tc⟩ := hpost
        have HPR := hid hpr
        have T1 := hid (ST.out.touch.trans tc (fun k hk e => by have := HQ.out; omega))
        have FB1 := hid ((tc.block q5 (lt_of_block ST.out.res) (fun e => by have := HQ.out; omega)).trans ST.out.res)
        have H1 := hid (show q5 < w1.heap.size from lt_of_block FB1.out)
        have hyI : ((y.1 : Int) == 0) = false := by rw [beq_eq_false_iff_ne]; omega
        clear hpr tc hyc
        simp only [partC, Gz.noPart]
        go_upto_region 9 with fail
        obtain ⟨B8, B9, tal⟩ := two_allocs w1 #[.string ⟨#[]⟩, .string ⟨#[]⟩, .string ⟨#[]⟩, .bool false, .bool false, .int .i64 0, .int .i64 0, .int .i64 0, .string ⟨#[]⟩] #[.int .i64 (y.1 : Nat), .int .i64 (y.2 : Nat)]
        generalize (w1.alloc (.cells #[.string ⟨#[]⟩, .string ⟨#[]⟩, .string ⟨#[]⟩, .bool false, .bool false, .int .i64 0, .int .i64 0, .int .i64 0, .string ⟨#[]⟩] 28)).alloc (.cells #[.int .i64 (y.1 : Nat), .int .i64 (y.2 : Nat)] 31) = w2 at *
        obtain ⟨q9, hq9⟩ : ∃ q9, q9 = w1.heap.size + 1 := ⟨_, rfl⟩
        rw [← hq9] at B9 ⊢
        have hne : q9 ≠ q5 := by have := H1.out; omega
        have T2 := hid (T1.out.trans tal (fun _ _ e => e))
        have fb := tal.still FB1.out
        have z0 := cell_two0 B9
        have z1 := cell_two1 B9
        have g0 := cell_two0 fb
        have g1 := cell_two1 fb
        have gf0 := free_two (i := 0) fb
        have gf1 := free_two (i := 1) fb
        have FB := hid fb
        clear B8 B9 tal T1 FB1 H1 fb hq9
        go_wp2
        go_region
        all_goals go_wp2
        all_goals
          refine bodyPost_ret (results_tc rfl _ _ q5 31 #[.int .i64 (y.1 : Nat), .int .i64 (y.2 : Nat)] (0, 0) _ rfl (fset (w' := w2) FB.out _ _) Tryz.underlying31 rfl (by kernel_rfl)) rfl ?_
          exact ⟨.error y, ST.out.upto.bad HGO.out HMY.out HPR.out, rfl, (ftouch T2.out HQ.out.1 _ _).drew⟩
      | ok pe =>
        obtain ⟨p, t'⟩ := pe
        obtain ⟨rfl, gs⟩ := hpost
        have HIN := hid (Gz.part_in hpr)
        have HUP := hid (ST.out.upto.step HGO.out HMY.out hpr)
        have T1 := hid (ST.out.touch.trans gs.touch (fun k hk e => by have := HQ.out; omega))
        have R1 := hid gs.gr
        have Q1 := hid (ST.out.quart.new gs.touch (fun e => HQ.out.2.2 e.symm))
        have FB1 := hid ((gs.touch.block q5 (lt_of_block ST.out.res) (fun e => by have := HQ.out; omega)).trans ST.out.res)
        have O1 := hid (ST.out.own.touch gs.touch (fun g hg e => by
          rw [e] at hg
          exact ST.out.own.ne ST.out.gr (by decide) hg))
        clear hpr gs
        obtain ⟨pn, pc, px, pt, ph, pm, po, ps, pd⟩ := p
        simp only [partC]
        go_upto_region 9 with fail
        obtain ⟨B8, B9, tal⟩ := two_allocs w1 #[.string pn, .string pc, .string px, .bool pt, .bool ph, .int .i64 (pm : Nat), .int .i64 (po : Nat), .int .i64 (ps : Nat), .string pd] #[.int .i64 0, .int .i64 0]
        generalize (w1.alloc (.cells #[.string pn, .string pc, .string px, .bool pt, .bool ph, .int .i64 (pm : Nat), .int .i64 (po : Nat), .int .i64 (ps : Nat), .string pd] 28)).alloc (.cells #[.int .i64 0, .int .i64 0] 31) = w2 at *
        obtain ⟨q8, hq8⟩ : ∃ q8, q8 = w1.heap.size := ⟨_, rfl⟩
        rw [← hq8] at B8 B9 ⊢
        obtain ⟨q9, hq9⟩ : ∃ q9, q9 = q8 + 1 := ⟨_, rfl⟩
        rw [← hq9] at B9 ⊢
        have T2 := hid (T1.out.trans tal (fun _ _ e => e))
        have R2 := hid (R1.out.new tal id)
        have Q2 := hid (Q1.out.new tal id)
        have FB2 := hid (tal.still FB1.out)
        have O2 := hid (O1.out.still tal)
        have z0 := cell_two0 B9
        have z8 : w2.cell? ⟨q8, 8, none⟩ = some (.string pd) := blk_cell B8 8
        have F8 := hid B8
        have hpd : pd.size ≤ m := HIN.out.2.2
        clear B8 B9 tal T1 R1 Q1 FB1 O1 hq8 hq9
        have al := (Touch.refl (fun _ => False) w2).alloc (.cells #[.string pn, .string pc, .string px, .bool pt, .bool ph, .int .i64 (pm : Nat), .int .i64 (po : Nat), .int .i64 (ps : Nat), .string pd] 28)
        have O3 := hid (O2.out.still al)
        have T3 := hid (T2.out.alloc (.cells #[.string pn, .string pc, .string px, .bool pt, .bool ph, .int .i64 (pm : Nat), .int .i64 (po : Nat), .int .i64 (ps : Nat), .string pd] 28))
        have R3 := hid (R2.out.new al id)
        have Q3 := hid (Q2.out.new al id)
        have FB3 := hid (al.still FB2.out)
        clear al T2 R2 Q2 FB2 O2
        go_wp2_with (first
          | refine wpList_load_row rfl 28 _ rfl q8 rfl 28 _ (0, 0) _ F8.out Tryz.underlying28 rfl info30 ?_
          | (at_builtin; refine wpList_append_own_at _ rfl _ _ 29 rfl 0 28 i0 (.agg #[.string ⟨#[]⟩, .string ⟨#[]⟩, .string ⟨#[]⟩, .bool false, .bool false, .int .i64 0, .int .i64 0, .int .i64 0, .string ⟨#[]⟩]) 9 96 Tryz.underlying29 hi30 hz0 hz1 hz2 rfl (by decide) _ _ _ rfl O3.out.own ⟨w2.heap.size, 0, none⟩ 1 1 (flatP [⟨pn, pc, px, pt, ph, pm, po, ps, pd⟩]) rfl rfl newsP (flatP_one _) (by unfold maxLen; omega) (by omega) (Nat.zero_le _) ?_)
          | fail)
        intro v4 w4 hown hgrow _ hat
        obtain ⟨a4, c4, hv4⟩ := own_shape hown
        subst hv4
        have hsz2 : (w2.alloc (.cells #[.string pn, .string pc, .string px, .bool pt, .bool ph, .int .i64 (pm : Nat), .int .i64 (po : Nat), .int .i64 (ps : Nat), .string pd] 28)).heap.size = w2.heap.size + 1 := by simp
        have ne : ∀ g cs ty, (w2.alloc (.cells #[.string pn, .string pc, .string px, .bool pt, .bool ph, .int .i64 (pm : Nat), .int .i64 (po : Nat), .int .i64 (ps : Nat), .string pd] 28)).heap[g]? = some (.cells cs ty (0, 0)) → ty ≠ 28 → some g ≠ (Value.slice a7 l.length c7).ownBlock := fun g cs ty hc hty e => O3.out.ne hc hty e.symm
        have S4 := hid (show RdS w w4 rb q5 s most t' (m - pd.size) (.slice a4 (l.length + 1) c4) (l ++ [⟨pn, pc, px, pt, ph, pm, po, ps, pd⟩]) from
          ⟨(hgrow.block rb (lt_of_block R3.out) (ne rb _ _ R3.out (by decide))).trans R3.out, HIN.out.2.1, O3.out.app _ T3.out.size hown (by rw [hsz2]; exact hat), HUP.out,
            T3.out.grown hgrow (fun k hk hlt => by have := O3.out.new k hk; omega), (hgrow.block q5 (lt_of_block FB3.out) (ne q5 _ _ FB3.out (by decide))).trans FB3.out,
            by
              obtain ⟨ty, hq⟩ := Q3.out
              refine ⟨ty, (hgrow.block 0 (lt_of_block hq) (fun e => ?_)).trans hq⟩
              have h1 := O3.out.new 0 e.symm
              have h2 := HQ.out
              have h3 := hgrow.size
              exact absurd h1 (by have := HW0.out; omega),
            by rw [List.length_append]; simp; have := HMY.out; omega, by omega⟩)
        clear hown hgrow hat ne O3 T3 R3 Q3 FB3
        have hbI : IntKind.i64.wrap ((m : Int) - (pd.size : Int)) = ((m - pd.size : Nat) : Int) := by rw [IntKind.wrap_i64]; omega
        go_wp2
        go_roundg g
        case measure => omega
        case rel => exact ⟨t', m - pd.size, l ++ [⟨pn, pc, px, pt, ph, pm, po, ps, pd⟩], by first | rfl | (congr 1; omega), by rw [show l.length + 1 = (l ++ [(⟨pn, pc, px, pt, ph, pm, po, ps, pd⟩ : Gz.Part)]).length by simp] at *; exact S4.out, by have := HIN.out; omega⟩
    · have hl0I : ((l.length : Int) == 0) = false := by rw [beq_eq_false_iff_ne]; omega
      have HL0 := hid hl0
      clear hl0
      by_cases hlt : t < s.size
      · obtain ⟨g, rfl⟩ : ∃ g, gk = g + 1 := ⟨gk - 1, by omega⟩
        have HGO := hid (show l.length = 0 ∨ t < s.size from .inr hlt)
        have hltI : (t : Int) < (s.size : Int) := by omega
        by_cases hmany : l.length = 1024
        · have hmy : ((l.length : Int) == 1024) = true := by rw [beq_iff_eq]; omega
          have HMY := hid hmany
          have HLT := hid hlt
          clear hmany
          go_wp2_with fail
          refine (fault_any rb s t 16 wr ST.out.gr).mono ?_
          rintro e w2 ⟨rfl, t2⟩
          have T2 := hid (ST.out.touch.trans t2 (fun _ _ e => e))
          have fb := t2.still ST.out.res
          have g0 := cell_two0 fb
          have g1 := cell_two1 fb
          have gf0 := free_two (i := 0) fb
          have gf1 := free_two (i := 1) fb
          have FB := hid fb
          clear t2 fb
          go_wp2
          refine bodyPost_ret (results_tc rfl _ _ q5 31 _ (0, 0) _ rfl (fset FB.out _ _) Tryz.underlying31 rfl (by kernel_rfl)) rfl ?_
          exact ⟨.error (16, t), ST.out.upto.many HLT.out HMY.out, rfl, ftouch T2.out HQ.out.1 _ _⟩
        · have hmy : ((l.length : Int) == 1024) = false := by rw [beq_eq_false_iff_ne]; omega
          have HMY := hid (show l.length < 1024 by omega)
          have KP := hid (part_any rb s t m wr ST.out.gr ST.out.quart HQ.out.2.2 hs ST.out.le (by omega))
          clear hmany
          go_wp2_with fail
          refine KP.out.mono ?_
          rintro e w1 ⟨r, hpr, hpost⟩
          clear KP
          cases r with
          | error y =>
            obtain ⟨rfl, hyc, tc⟩ := hpost
            have HPR := hid hpr
            have T1 := hid (ST.out.touch.trans tc (fun k hk e => by have := HQ.out; omega))
            have FB1 := hid ((tc.block q5 (lt_of_block ST.out.res) (fun e => by have := HQ.out; omega)).trans ST.out.res)
            have H1 := hid (show q5 < w1.heap.size from lt_of_block FB1.out)
            have hyI : ((y.1 : Int) == 0) = false := by rw [beq_eq_false_iff_ne]; omega
            clear hpr tc hyc
            simp only [partC, Gz.noPart]
            go_upto_region 9 with fail
            obtain ⟨B8, B9, tal⟩ := two_allocs w1 #[.string ⟨#[]⟩, .string ⟨#[]⟩, .string ⟨#[]⟩, .bool false, .bool false, .int .i64 0, .int .i64 0, .int .i64 0, .string ⟨#[]⟩] #[.int .i64 (y.1 : Nat), .int .i64 (y.2 : Nat)]
            generalize (w1.alloc (.cells #[.string ⟨#[]⟩, .string ⟨#[]⟩, .string ⟨#[]⟩, .bool false, .bool false, .int .i64 0, .int .i64 0, .int .i64 0, .string ⟨#[]⟩] 28)).alloc (.cells #[.int .i64 (y.1 : Nat), .int .i64 (y.2 : Nat)] 31) = w2 at *
            obtain ⟨q9, hq9⟩ : ∃ q9, q9 = w1.heap.size + 1 := ⟨_, rfl⟩
            rw [← hq9] at B9 ⊢
            have hne : q9 ≠ q5 := by have := H1.out; omega
            have T2 := hid (T1.out.trans tal (fun _ _ e => e))
            have fb := tal.still FB1.out
            have z0 := cell_two0 B9
            have z1 := cell_two1 B9
            have g0 := cell_two0 fb
            have g1 := cell_two1 fb
            have gf0 := free_two (i := 0) fb
            have gf1 := free_two (i := 1) fb
            have FB := hid fb
            clear B8 B9 tal T1 FB1 H1 fb hq9
            go_wp2
            go_region
            all_goals go_wp2
            all_goals
              refine bodyPost_ret (results_tc rfl _ _ q5 31 #[.int .i64 (y.1 : Nat), .int .i64 (y.2 : Nat)] (0, 0) _ rfl (fset (w' := w2) FB.out _ _) Tryz.underlying31 rfl (by kernel_rfl)) rfl ?_
              exact ⟨.error y, ST.out.upto.bad HGO.out HMY.out HPR.out, rfl, (ftouch T2.out HQ.out.1 _ _).drew⟩
          | ok pe =>
            obtain ⟨p, t'⟩ := pe
            obtain ⟨rfl, gs⟩ := hpost
            have HIN := hid (Gz.part_in hpr)
            have HUP := hid (ST.out.upto.step HGO.out HMY.out hpr)
            have T1 := hid (ST.out.touch.trans gs.touch (fun k hk e => by have := HQ.out; omega))
            have R1 := hid gs.gr
            have Q1 := hid (ST.out.quart.new gs.touch (fun e => HQ.out.2.2 e.symm))
            have FB1 := hid ((gs.touch.block q5 (lt_of_block ST.out.res) (fun e => by have := HQ.out; omega)).trans ST.out.res)
            have O1 := hid (ST.out.own.touch gs.touch (fun g hg e => by
              rw [e] at hg
              exact ST.out.own.ne ST.out.gr (by decide) hg))
            clear hpr gs
            obtain ⟨pn, pc, px, pt, ph, pm, po, ps, pd⟩ := p
            simp only [partC]
            go_upto_region 9 with fail
            obtain ⟨B8, B9, tal⟩ := two_allocs w1 #[.string pn, .string pc, .string px, .bool pt, .bool ph, .int .i64 (pm : Nat), .int .i64 (po : Nat), .int .i64 (ps : Nat), .string pd] #[.int .i64 0, .int .i64 0]
            generalize (w1.alloc (.cells #[.string pn, .string pc, .string px, .bool pt, .bool ph, .int .i64 (pm : Nat), .int .i64 (po : Nat), .int .i64 (ps : Nat), .string pd] 28)).alloc (.cells #[.int .i64 0, .int .i64 0] 31) = w2 at *
            obtain ⟨q8, hq8⟩ : ∃ q8, q8 = w1.heap.size := ⟨_, rfl⟩
            rw [← hq8] at B8 B9 ⊢
            obtain ⟨q9, hq9⟩ : ∃ q9, q9 = q8 + 1 := ⟨_, rfl⟩
            rw [← hq9] at B9 ⊢
            have T2 := hid (T1.out.trans tal (fun _ _ e => e))
            have R2 := hid (R1.out.new tal id)
            have Q2 := hid (Q1.out.new tal id)
            have FB2 := hid (tal.still FB1.out)
            have O2 := hid (O1.out.still tal)
            have z0 := cell_two0 B9
            have z8 : w2.cell? ⟨q8, 8, none⟩ = some (.string pd) := blk_cell B8 8
            have F8 := hid B8
            have hpd : pd.size ≤ m := HIN.out.2.2
            clear B8 B9 tal T1 R1 Q1 FB1 O1 hq8 hq9
            have al := (Touch.refl (fun _ => False) w2).alloc (.cells #[.string pn, .string pc, .string px, .bool pt, .bool ph, .int .i64 (pm : Nat), .int .i64 (po : Nat), .int .i64 (ps : Nat), .string pd] 28)
            have O3 := hid (O2.out.still al)
            have T3 := hid (T2.out.alloc (.cells #[.string pn, .string pc, .string px, .bool pt, .bool ph, .int .i64 (pm : Nat), .int .i64 (po : Nat), .int .i64 (ps : Nat), .string pd] 28))
            have R3 := hid (R2.out.new al id)
            have Q3 := hid (Q2.out.new al id)
            have FB3 := hid (al.still FB2.out)
            clear al T2 R2 Q2 FB2 O2
            go_wp2_with (first
              | refine wpList_load_row rfl 28 _ rfl q8 rfl 28 _ (0, 0) _ F8.out Tryz.underlying28 rfl info30 ?_
              | (at_builtin; refine wpList_append_own_at _ rfl _ _ 29 rfl 0 28 i0 (.agg #[.string ⟨#[]⟩, .string ⟨#[]⟩, .string ⟨#[]⟩, .bool false, .bool false, .int .i64 0, .int .i64 0, .int .i64 0, .string ⟨#[]⟩]) 9 96 Tryz.underlying29 hi30 hz0 hz1 hz2 rfl (by decide) _ _ _ rfl O3.out.own ⟨w2.heap.size, 0, none⟩ 1 1 (flatP [⟨pn, pc, px, pt, ph, pm, po, ps, pd⟩]) rfl rfl newsP (flatP_one _) (by unfold maxLen; omega) (by omega) (Nat.zero_le _) ?_)
              | fail)
            intro v4 w4 hown hgrow _ hat
            obtain ⟨a4, c4, hv4⟩ := own_shape hown
            subst hv4
            have hsz2 : (w2.alloc (.cells #[.string pn, .string pc, .string px, .bool pt, .bool ph, .int .i64 (pm : Nat), .int .i64 (po : Nat), .int .i64 (ps : Nat), .string pd] 28)).heap.size = w2.heap.size + 1 := by simp
            have ne : ∀ g cs ty, (w2.alloc (.cells #[.string pn, .string pc, .string px, .bool pt, .bool ph, .int .i64 (pm : Nat), .int .i64 (po : Nat), .int .i64 (ps : Nat), .string pd] 28)).heap[g]? = some (.cells cs ty (0, 0)) → ty ≠ 28 → some g ≠ (Value.slice a7 l.length c7).ownBlock := fun g cs ty hc hty e => O3.out.ne hc hty e.symm
            have S4 := hid (show RdS w w4 rb q5 s most t' (m - pd.size) (.slice a4 (l.length + 1) c4) (l ++ [⟨pn, pc, px, pt, ph, pm, po, ps, pd⟩]) from
              ⟨(hgrow.block rb (lt_of_block R3.out) (ne rb _ _ R3.out (by decide))).trans R3.out, HIN.out.2.1, O3.out.app _ T3.out.size hown (by rw [hsz2]; exact hat), HUP.out,
                T3.out.grown hgrow (fun k hk hlt => by have := O3.out.new k hk; omega), (hgrow.block q5 (lt_of_block FB3.out) (ne q5 _ _ FB3.out (by decide))).trans FB3.out,
                by
                  obtain ⟨ty, hq⟩ := Q3.out
                  refine ⟨ty, (hgrow.block 0 (lt_of_block hq) (fun e => ?_)).trans hq⟩
                  have h1 := O3.out.new 0 e.symm
                  have h2 := HQ.out
                  have h3 := hgrow.size
                  exact absurd h1 (by have := HW0.out; omega),
                by rw [List.length_append]; simp; have := HMY.out; omega, by omega⟩)
            clear hown hgrow hat ne O3 T3 R3 Q3 FB3
            have hbI : IntKind.i64.wrap ((m : Int) - (pd.size : Int)) = ((m - pd.size : Nat) : Int) := by rw [IntKind.wrap_i64]; omega
            go_wp2
            go_roundg g
            case measure => omega
            case rel => exact ⟨t', m - pd.size, l ++ [⟨pn, pc, px, pt, ph, pm, po, ps, pd⟩], by first | rfl | (congr 1; omega), by rw [show l.length + 1 = (l ++ [(⟨pn, pc, px, pt, ph, pm, po, ps, pd⟩ : Gz.Part)]).length by simp] at *; exact S4.out, by have := HIN.out; omega⟩
      · have hltI : ¬ ((t : Int) < (s.size : Int)) := by omega
        have HLT := hid (show s.size ≤ t by omega)
        have fb := ST.out.res
        have g0 := cell_two0 fb
        have g1 := cell_two1 fb
        have gf0 := free_two (i := 0) fb
        have gf1 := free_two (i := 1) fb
        have FB := hid fb
        clear fb hlt
        go_wp2
        refine bodyPost_ret (results_tc rfl _ _ q5 31 _ (0, 0) _ rfl (fset FB.out _ _) Tryz.underlying31 rfl (by kernel_rfl)) rfl ?_
        refine ⟨.ok l, ST.out.upto.fin HLT.out HL0.out, _, rfl, ?_, ftouch ST.out.touch HQ.out.1 _ _⟩
        exact ST.out.own.touch (S := fun k => k = q5) ⟨rfl, rfl, rfl, by simp [World.setCell], fun k _ hk => by rw [Below.heap_setCell _ _ _ _ hk, Below.heap_setCell _ _ _ _ hk]⟩ (fun g hg e => by
          rw [e] at hg
          exact ST.out.own.ne ST.out.res (by decide) hg)
end Go.Proofs.YtffjkceedbblgaaGreatDoor
