/- Texts of this proof, one behind the other: what each says stands ahead of it. -/
import Derived.Test.YtmokfheckngfiaaDoorM9
import Derived.Test.YtmokfheckngfiaaDoorM8
import Derived.Laws.Pointers
/- cut of any range within one length; conditions: those told. -/
namespace Go.Proofs.YtmokfheckngfiaaDoor
open Go.RowKit
open Go.Lib

theorem cutL_some {f t k a : Nat} (hk : k = 6 ∨ k = 12 ∨ k = 18) (hft : f ≤ t) (h : cutL f t k = some a) : f < a ∧ a ≤ t := by
  unfold cutL at h
  rcases hk with rfl | rfl | rfl
  all_goals
    simp only [Nat.reducePow] at h
    split at h
    · cases h
    · split at h
      · have := Option.some.inj h
        omega
      · split at h
        · have := Option.some.inj h
          omega
        · cases h
/-- The parts that cut makes of a range. -/
inductive Cuts (fu : Nat) : Nat → Nat → List (Nat × Nat) → Prop
  | leaf (f t : Nat) (h : ∀ i, i < fu → cutL f t ((i + 1) * 6) = none) : Cuts fu f t [(f, t)]
  | node (f t i a : Nat) (l m : List (Nat × Nat)) (hi : i < fu) (hn : ∀ j, j < i → cutL f t ((j + 1) * 6) = none) (hc : cutL f t ((i + 1) * 6) = some a) (hl : Cuts fu f (a - 1) l) (hm : Cuts fu a t m) : Cuts fu f t (l ++ m)
/-- A range of scalars of one length. -/
structure Cls (fu f t : Nat) : Prop where
  few : fu ≤ 3
  lo : bdL fu ≤ f
  le : f ≤ t
  hi : t < bdL (fu + 1)
  sur : t < 55296 ∨ 57344 ≤ f
theorem Cls.top {fu f t : Nat} (h : Cls fu f t) : t ≤ 1114111 := by
  have h1 := h.hi
  have h2 := h.few
  rcases (show fu = 0 ∨ fu = 1 ∨ fu = 2 ∨ fu = 3 by omega) with rfl | rfl | rfl | rfl <;> simp [bdL] at h1 <;> omega
theorem Cls.left {fu f t a : Nat} (h : Cls fu f t) (h1 : f < a) (h2 : a ≤ t) : Cls fu f (a - 1) :=
  ⟨h.few, h.lo, by omega, by have := h.hi; omega, by have := h.sur; omega⟩
theorem Cls.right {fu f t a : Nat} (h : Cls fu f t) (h1 : f < a) (h2 : a ≤ t) : Cls fu a t :=
  ⟨h.few, by have := h.lo; omega, h2, h.hi, by have := h.sur; omega⟩
theorem len_in {fu x : Nat} (hfu : fu ≤ 3) (h1 : bdL fu ≤ x) (h2 : x < bdL (fu + 1)) : (en8 (x : Int)).length = fu + 1 := by
  rcases (show fu = 0 ∨ fu = 1 ∨ fu = 2 ∨ fu = 3 by omega) with rfl | rfl | rfl | rfl <;> simp [bdL] at h1 h2 <;> unfold en8
  · rw [if_pos (by omega)]; rfl
  · rw [if_neg (by omega), if_pos (by omega)]; rfl
  · rw [if_neg (by omega), if_neg (by omega), if_pos (by omega)]; rfl
  · rw [if_neg (by omega), if_neg (by omega), if_neg (by omega)]; rfl
theorem okc_nat {x : Nat} (h1 : x ≤ 1114111) (h2 : x < 55296 ∨ 57344 ≤ x) : okc 1 (x : Int) = true := by
  have h : scB (x : Int) = true := (scB_iff _).2 (by omega)
  unfold okc
  rw [h]
  rfl
theorem Cls.okf {fu f t : Nat} (h : Cls fu f t) : okc 1 (f : Int) = true := okc_nat (by have := h.top; have := h.le; omega) (by have := h.sur; have := h.le; omega)
theorem Cls.okt {fu f t : Nat} (h : Cls fu f t) : okc 1 (t : Int) = true := okc_nat h.top (by have := h.sur; have := h.le; omega)
theorem Cls.len {fu f t : Nat} (h : Cls fu f t) : (en8 (f : Int)).length = (en8 (t : Int)).length := by
  have := h.le
  have := h.hi
  have := h.lo
  rw [len_in h.few h.lo (by omega), len_in h.few (by omega) h.hi]
theorem six {i fu : Nat} (hi : i < fu) (hfu : fu ≤ 3) : (i + 1) * 6 = 6 ∨ (i + 1) * 6 = 12 ∨ (i + 1) * 6 = 18 := by omega
theorem Cuts.few {fu f t : Nat} {l : List (Nat × Nat)} (h : Cuts fu f t l) : fu ≤ 3 → f ≤ t → l.length ≤ t - f + 1 := by
  induction h with
  | leaf f t h => intro _ _; simp
  | node f t i a l m hi hn hc hl hm ihl ihm =>
    intro hfu hft
    have h1 := cutL_some (six hi hfu) hft hc
    have h2 := ihl hfu (by omega)
    have h3 := ihm hfu (by omega)
    rw [List.length_append]
    omega
theorem cuts_all (fu : Nat) (hfu : fu ≤ 3) : ∀ n f t, t - f ≤ n → f ≤ t → ∃ l, Cuts fu f t l
  | 0, f, t, hn, hft => ⟨_, .leaf f t (fun i hi => by
      obtain rfl : f = t := by omega
      exact cutL_same f _)⟩
  | n + 1, f, t, hn, hft => by
    by_cases h : ∀ i, i < fu → cutL f t ((i + 1) * 6) = none
    · exact ⟨_, .leaf f t h⟩
    · have key : ∀ k, k ≤ fu → (∀ j, j < k → cutL f t ((j + 1) * 6) = none) ∨ ∃ i, i < fu ∧ (∀ j, j < i → cutL f t ((j + 1) * 6) = none) ∧ ∃ a, cutL f t ((i + 1) * 6) = some a := fun k => by
        induction k with
        | zero => exact fun _ => .inl (fun j hj => by omega)
        | succ k ih =>
          intro hk
          rcases ih (by omega) with g | g
          · cases hc : cutL f t ((k + 1) * 6) with
            | none =>
              refine .inl (fun j hj => ?_)
              rcases Nat.lt_or_ge j k with q | q
              · exact g j q
              · obtain rfl : j = k := by omega
                exact hc
            | some a => exact .inr ⟨k, by omega, g, a, hc⟩
          · exact .inr g
      rcases key fu (Nat.le_refl _) with g | ⟨i, hi, g, a, ha⟩
      · exact absurd g h
      · have h1 := cutL_some (six hi hfu) hft ha
        obtain ⟨l, hl⟩ := cuts_all fu hfu n f (a - 1) (by omega) (by omega)
        obtain ⟨m, hm⟩ := cuts_all fu hfu n a t (by omega) (by omega)
        exact ⟨_, .node f t i a l m hi g ha hl hm⟩
set_option maxRecDepth 100000 in
set_option maxHeartbeats 8000000 in
theorem cut_leaf (f t fu : Nat) (hcl : Cls fu f t) (hno : ∀ i, i < fu → cutL f t ((i + 1) * 6) = none) (q : Nat) (v : Value) (o : List Value) (w : World) (h : Rb (fun k => k = q ∨ v.ownBlock = some k) w w q v o) (hb : o.length ≤ 1099511627) :
    Calls Tryd.prog 51 #[.agg #[.int .i64 (f : Nat), .int .i64 (t : Nat)], .int .i64 (fu : Nat), .func (.func 33) #[] #[.pointer (some ⟨q, 0, none⟩)]] w fun e w' => PutRows w q v o [(f, t)] e w' := by
  have B := hid (block_new w #[.int .i64 (f : Nat), .int .i64 (t : Nat)] 38)
  have TA := hid ((Touch.refl (fun _ => False) w).alloc (.cells #[.int .i64 (f : Nat), .int .i64 (t : Nat)] 38))
  have H := hid h
  have HNO := hid hno
  have KP := hid (fun w h => split1_all (f : Int) (t : Int) hcl.okf hcl.okt hcl.len q v o w h hb)
  have hft := hcl.le
  have htm := hcl.top
  have hfu := hcl.few
  clear h hno hcl
  go_enter Tryd.func51, Tryd.ntmps51
  go_upto_region 1 with fail
  generalize (w.alloc (.cells #[.int .i64 (f : Nat), .int .i64 (t : Nat)] 38)) = w1 at *
  obtain ⟨p, hp⟩ : ∃ p, p = w.heap.size := ⟨_, rfl⟩
  rw [← hp] at B ⊢
  clear hp
  go_wp2_with fail
  go_loopg [10] fu (fun gk v10 wq => ∃ i : Nat, i + gk = fu ∧ v10 = .int .i64 (i : Nat) ∧ Touch (fun _ => False) w1 wq)
  case atStart => exact ⟨0, by omega, rfl, Touch.refl _ _⟩
  case round =>
    obtain ⟨i, hi, rfl, htc⟩ := hrel
    have TC := hid htc
    clear htc
    have BR := hid ((TC.out.block p (lt_of_block B.out) id).trans B.out)
    have c0 : wr.cell? ⟨p, 0, none⟩ = some (.int .i64 (f : Nat)) := by simp [World.cell?, BR.out]
    have c1 : wr.cell? ⟨p, 1, none⟩ = some (.int .i64 (t : Nat)) := by simp [World.cell?, BR.out]
    by_cases hlt : i < fu
    · obtain ⟨gk, rfl⟩ : ∃ j, gk = j + 1 := ⟨gk - 1, by omega⟩
      have hltI : (i : Int) < (fu : Int) := by omega
      have KC := hid (cutAt_any f t ((i + 1) * 6) (by omega) hft htm wr)
      rw [HNO.out i hlt, show (((i + 1) * 6 : Nat) : Int) = ((i : Int) + 1) * 6 by omega] at KC
      unfold cutV at KC
      go_wp2_with fail
      refine KC.out.mono ?_
      rintro e w2 ⟨rfl, t2⟩
      have T2 := hid (TC.out.trans t2 (fun _ _ e => e))
      clear t2 KC c0 c1 BR TC
      go_wp2
      go_roundg gk
      case measure => omega
      case rel => exact ⟨i + 1, by omega, by go_num, T2.out⟩
    · have hltI : ¬ ((i : Int) < (fu : Int)) := by omega
      have O := hid (H.out.still (TA.out.trans TC.out (fun _ _ e => e)))
      have KK := hid (KP.out wr O.out.now)
      go_wp2_with fail
      refine KK.out.mono ?_
      rintro e w2 ⟨rfl, v2, x2, hrb, hrw⟩
      have O2 := hid (O.out.back hrb)
      have RW := hid (hrw.from (show w.heap.size ≤ wr.heap.size from (TA.out.trans TC.out (fun _ _ e => e)).size))
      clear hrb hrw KK c0 c1
      go_wp2
      refine bodyPost_end (results_none rfl _ _ _) rfl ?_
      exact ⟨rfl, v2, [x2], O2.out, RW.out, trivial⟩
set_option maxRecDepth 100000 in
set_option maxHeartbeats 8000000 in
theorem cut_node (f t fu i0 a : Nat) (l m : List (Nat × Nat)) (hcl : Cls fu f t) (hi0 : i0 < fu) (hno : ∀ j, j < i0 → cutL f t ((j + 1) * 6) = none) (hc : cutL f t ((i0 + 1) * 6) = some a) (q : Nat) (v : Value) (o : List Value) (w : World) (h : Rb (fun k => k = q ∨ v.ownBlock = some k) w w q v o)
    (KL : ∀ w, Rb (fun k => k = q ∨ v.ownBlock = some k) w w q v o → Calls Tryd.prog 51 #[.agg #[.int .i64 (f : Nat), .int .i64 ((a - 1 : Nat) : Int)], .int .i64 (fu : Nat), .func (.func 33) #[] #[.pointer (some ⟨q, 0, none⟩)]] w fun e w' => PutRows w q v o l e w')
    (KR : ∀ v os w, os.length = l.length → Rb (fun k => k = q ∨ v.ownBlock = some k) w w q v (o ++ os) → Calls Tryd.prog 51 #[.agg #[.int .i64 (a : Nat), .int .i64 (t : Nat)], .int .i64 (fu : Nat), .func (.func 33) #[] #[.pointer (some ⟨q, 0, none⟩)]] w fun e w' => PutRows w q v (o ++ os) m e w') :
    Calls Tryd.prog 51 #[.agg #[.int .i64 (f : Nat), .int .i64 (t : Nat)], .int .i64 (fu : Nat), .func (.func 33) #[] #[.pointer (some ⟨q, 0, none⟩)]] w fun e w' => PutRows w q v o (l ++ m) e w' := by
  have B := hid (block_new w #[.int .i64 (f : Nat), .int .i64 (t : Nat)] 38)
  have TA := hid ((Touch.refl (fun _ => False) w).alloc (.cells #[.int .i64 (f : Nat), .int .i64 (t : Nat)] 38))
  have H := hid h
  have HNO := hid hno
  have HC := hid hc
  have hft := hcl.le
  have htm := hcl.top
  have hfu := hcl.few
  have hfa := cutL_some (six hi0 hfu) hft hc
  have KLH := hid KL
  have KRH := hid KR
  rw [show ((a - 1 : Nat) : Int) = (a : Int) - 1 by omega] at KLH
  clear h hno hcl hc KL KR
  go_enter Tryd.func51, Tryd.ntmps51
  go_upto_region 1 with fail
  generalize (w.alloc (.cells #[.int .i64 (f : Nat), .int .i64 (t : Nat)] 38)) = w1 at *
  obtain ⟨p, hp⟩ : ∃ p, p = w.heap.size := ⟨_, rfl⟩
  rw [← hp] at B ⊢
  clear hp
  go_wp2_with fail
  go_loopg [10] i0 (fun gk v10 wq => ∃ i : Nat, i + gk = i0 ∧ v10 = .int .i64 (i : Nat) ∧ Touch (fun _ => False) w1 wq)
  case atStart => exact ⟨0, by omega, rfl, Touch.refl _ _⟩
  case round =>
    obtain ⟨i, hi, rfl, htc⟩ := hrel
    have TC := hid htc
    clear htc
    have BR := hid ((TC.out.block p (lt_of_block B.out) id).trans B.out)
    have c0 : wr.cell? ⟨p, 0, none⟩ = some (.int .i64 (f : Nat)) := by simp [World.cell?, BR.out]
    have c1 : wr.cell? ⟨p, 1, none⟩ = some (.int .i64 (t : Nat)) := by simp [World.cell?, BR.out]
    have hltI : (i : Int) < (fu : Int) := by omega
    have KC := hid (cutAt_any f t ((i + 1) * 6) (by omega) hft htm wr)
    by_cases hlt : i < i0
    · obtain ⟨gk, rfl⟩ : ∃ j, gk = j + 1 := ⟨gk - 1, by omega⟩
      rw [HNO.out i hlt, show (((i + 1) * 6 : Nat) : Int) = ((i : Int) + 1) * 6 by omega] at KC
      unfold cutV at KC
      go_wp2_with fail
      refine KC.out.mono ?_
      rintro e w2 ⟨rfl, t2⟩
      have T2 := hid (TC.out.trans t2 (fun _ _ e => e))
      clear t2 KC c0 c1 BR TC
      go_wp2
      go_roundg gk
      case measure => omega
      case rel => exact ⟨i + 1, by omega, by go_num, T2.out⟩
    · obtain rfl : i = i0 := by omega
      rw [HC.out, show (((i + 1) * 6 : Nat) : Int) = ((i : Int) + 1) * 6 by omega] at KC
      unfold cutV at KC
      go_wp2_with fail
      refine KC.out.mono ?_
      rintro e w2 ⟨rfl, t2⟩
      have T2 := hid (TA.out.trans (TC.out.trans t2 (fun _ _ e => e)) (fun _ _ e => e))
      have B2 := hid ((t2.block p (lt_of_block BR.out) id).trans BR.out)
      clear t2 KC c0 c1 BR TC
      have O := hid (H.out.still T2.out)
      have c0 : w2.cell? ⟨p, 0, none⟩ = some (.int .i64 (f : Nat)) := by simp [World.cell?, B2.out]
      have KK := hid (KLH.out w2 O.out.now)
      go_wp2_with fail
      refine KK.out.mono ?_
      rintro e w3 ⟨rfl, v3, os3, hrb, hrw⟩
      have B3 := hid ((hrb.touch.block p (lt_of_block B2.out) (O.out.apart38 p _ B2.out)).trans B2.out)
      have O3 := hid (O.out.back hrb)
      have RW := hid (hrw.from T2.out.size)
      have SZ := hid (Nat.le_trans T2.out.size hrb.touch.size)
      clear hrb hrw KK c0
      have c1 : w3.cell? ⟨p, 1, none⟩ = some (.int .i64 (t : Nat)) := by simp [World.cell?, B3.out]
      have KK := hid (KRH.out v3 os3 w3 RW.out.len O3.out.now)
      go_wp2_with fail
      refine KK.out.mono ?_
      rintro e w4 ⟨rfl, v4, os4, hrb, hrw⟩
      have ALL := hid (rows_more O3.out RW.out hrb hrw SZ.out)
      clear hrb hrw KK c1
      go_wp2
      refine bodyPost_end (results_none rfl _ _ _) rfl ?_
      exact ⟨rfl, v4, os3 ++ os4, ALL.out.1, ALL.out.2⟩
/-- cut: the rows of a range's parts. -/
theorem cut_all {fu f t : Nat} {l : List (Nat × Nat)} (hc : Cuts fu f t l) : ∀ (_ : Cls fu f t) (q : Nat) (v : Value) (o : List Value) (w : World) (_ : Rb (fun k => k = q ∨ v.ownBlock = some k) w w q v o) (_ : o.length + (t - f) ≤ 1099511627),
    Calls Tryd.prog 51 #[.agg #[.int .i64 (f : Nat), .int .i64 (t : Nat)], .int .i64 (fu : Nat), .func (.func 33) #[] #[.pointer (some ⟨q, 0, none⟩)]] w fun e w' => PutRows w q v o l e w' := by
  induction hc with
  | leaf f t h => exact fun hcl q v o w hr hb => cut_leaf f t fu hcl h q v o w hr (by omega)
  | node f t i a l m hi hn hc hl hm ihl ihm =>
    intro hcl q v o w hr hb
    have h1 := cutL_some (six hi hcl.few) hcl.le hc
    have h2 := hl.few hcl.few (by omega)
    refine cut_node f t fu i a l m hcl hi hn hc q v o w hr (fun w hr => ihl (hcl.left h1.1 h1.2) q v o w hr (by omega)) (fun v os w hos hr => ihm (hcl.right h1.1 h1.2) q v (o ++ os) w hr ?_)
    rw [List.length_append, hos]
    omega
end Go.Proofs.YtmokfheckngfiaaDoor

/- cutByLength of any range of scalars; conditions: those told. -/
namespace Go.Proofs.YtmokfheckngfiaaDoor
open Go.RowKit
open Go.Lib

/-- The parts that cutByLength makes of a range, up to a border. -/
inductive Parts (f t : Nat) : Nat → List (Nat × Nat) → Prop
  | none : Parts f t 0 []
  | skip (i : Nat) (l : List (Nat × Nat)) (h : Parts f t i l) (hn : ¬ max f (bdL i) ≤ min t (bdL (i + 1) - 1)) : Parts f t (i + 1) l
  | put (i : Nat) (l m : List (Nat × Nat)) (h : Parts f t i l) (hn : max f (bdL i) ≤ min t (bdL (i + 1) - 1)) (hc : Cuts i (max f (bdL i)) (min t (bdL (i + 1) - 1)) m) : Parts f t (i + 1) (l ++ m)
theorem bd_lt (i : Nat) (h : i < 4) : bdL i < bdL (i + 1) ∧ 128 ≤ bdL (i + 1) ∧ bdL (i + 1) ≤ 1114112 := by
  rcases (show i = 0 ∨ i = 1 ∨ i = 2 ∨ i = 3 by omega) with rfl | rfl | rfl | rfl <;> decide
theorem bord_at (i : Nat) (h : i < 4) : bordC[i]? = some (.int .i64 (bdL (i + 1) : Nat)) := by
  rcases (show i = 0 ∨ i = 1 ∨ i = 2 ∨ i = 3 by omega) with rfl | rfl | rfl | rfl <;> rfl
theorem max_step (f i : Nat) (h : i < 4) : max (max f (bdL i)) (bdL (i + 1)) = max f (bdL (i + 1)) := by
  have := bd_lt i h
  omega
theorem Parts.few {f t i : Nat} {l : List (Nat × Nat)} (h : Parts f t i l) : i ≤ 4 → l.length ≤ t + 1 ∧ l.length ≤ bdL i := by
  induction h with
  | none => intro _; simp
  | skip i l h hn ih =>
    intro hi
    have := ih (by omega)
    have := bd_lt i (by omega)
    omega
  | put i l m h hn hc ih =>
    intro hi
    have h1 := ih (by omega)
    have h2 := hc.few (by omega) hn
    have h3 := bd_lt i (by omega)
    rw [List.length_append]
    omega
theorem cls_at {f t i : Nat} (hi : i < 4) (hs : t < 55296 ∨ 57344 ≤ f) (hn : max f (bdL i) ≤ min t (bdL (i + 1) - 1)) : Cls i (max f (bdL i)) (min t (bdL (i + 1) - 1)) :=
  ⟨by omega, by omega, hn, by have := bd_lt i hi; omega, by omega⟩
theorem Rb.setAway {P : Nat → Prop} {W0 wr : World} {q p i : Nat} {v u : Value} {o : List Value} {cs : Array Value} (h : Rb P W0 wr q v o) (hp : W0.heap.size ≤ p) (hc : wr.heap[p]? = some (.cells cs 38 (0, 0))) : Rb P W0 (wr.setCell ⟨p, i, none⟩ u) q v o := h.setNew hp hc
theorem RowsAt.set {w : World} {N p i : Nat} {u : Value} {xs : List Value} {l : List (Nat × Nat)} (h : RowsAt w N xs l) (hp : p < N) : RowsAt (w.setCell ⟨p, i, none⟩ u) N xs l :=
  h.kept ((Touch.refl (fun k => k = p) w).setCell (p := ⟨p, i, none⟩) (fun _ => rfl) u) (fun b _ hb _ e => by omega)
structure ChS (w w1 : World) (p q : Nat) (v : Value) (o : List Value) (f t i : Nat) (wq : World) : Prop where
  box : wq.heap[p]? = some (.cells #[.int .i64 (max f (bdL i) : Nat), .int .i64 (t : Nat)] 38 (0, 0))
  rows : ∃ l v' os, Parts f t i l ∧ Rb (fun k => k = q ∨ v.ownBlock = some k) w wq q v' (o ++ os) ∧ RowsAt wq w1.heap.size os l
set_option maxRecDepth 100000 in
set_option maxHeartbeats 16000000 in
theorem cutBL_all (f t : Nat) (htm : t ≤ 1114111) (hs : t < 55296 ∨ 57344 ≤ f) (q : Nat) (v : Value) (o : List Value) (w : World) (hbd : Bord w) (h : Rb (fun k => k = q ∨ v.ownBlock = some k) w w q v o) (hb : o.length ≤ 1000000000) :
    Calls Tryd.prog 35 #[.agg #[.int .i64 (f : Nat), .int .i64 (t : Nat)], .func (.func 33) #[] #[.pointer (some ⟨q, 0, none⟩)]] w fun e w' => ∃ l, Parts f t 4 l ∧ PutRows w q v o l e w' := by
  have B := hid (block_new w #[.int .i64 (f : Nat), .int .i64 (t : Nat)] 38)
  have TA := hid ((Touch.refl (fun _ => False) w).alloc (.cells #[.int .i64 (f : Nat), .int .i64 (t : Nat)] 38))
  have H := hid h
  obtain ⟨tb, hbd0⟩ := hbd
  have BD := hid ((TA.out.block 0 (lt_of_block hbd0) id).trans hbd0)
  clear h hbd0
  go_enter Tryd.func35, Tryd.ntmps35
  go_upto_region 1 with fail
  have O1 := hid (H.out.still TA.out)
  generalize (w.alloc (.cells #[.int .i64 (f : Nat), .int .i64 (t : Nat)] 38)) = w1 at *
  obtain ⟨p, hp⟩ : ∃ p, p = w.heap.size := ⟨_, rfl⟩
  have HP := hid (show w.heap.size ≤ p by omega)
  have HP1 := hid (show p < w1.heap.size from by rw [hp]; exact lt_of_block B.out)
  rw [← hp] at B ⊢
  clear hp
  have hbd1 := BD.out
  go_wp2_with (first | refine wpList_load_row rfl 80 _ rfl 0 rfl tb bordC (0, 0) _ hbd1 Tryd.underlying80 rfl (by kernel_rfl) ?_ | fail)
  go_loopg [8] 4 (fun gk v8 wq => ∃ i : Nat, i + gk = 4 ∧ v8 = .int .i64 (i : Nat) ∧ w1.heap.size ≤ wq.heap.size ∧ ChS w w1 p q v o f t i wq)
  case atStart => exact ⟨0, by omega, rfl, Nat.le_refl _, by rw [show max f (bdL 0) = f from Nat.max_eq_left (Nat.zero_le _)]; exact B.out, [], v, [], .none, by rw [List.append_nil]; exact O1.out, trivial⟩
  case round =>
    obtain ⟨i, hi, rfl, hsz, hst⟩ := hrel
    have SZ := hid hsz
    have AB := hid hst.box
    obtain ⟨l, v3, os, hpt, hrb, hrw⟩ := hst.rows
    have PT := hid hpt
    have AR := hid hrb
    have RW := hid hrw
    have lp := lt_of_block AB.out
    by_cases h4 : i < 4
    · obtain ⟨gk, rfl⟩ : ∃ j, gk = j + 1 := ⟨gk - 1, by omega⟩
      have h4I : (i : Int) < 4 := by omega
      have hix : (Instr.index 80 (.agg bordC) (.int .i64 (i : Int))).run Tryd.prog wr = .ok (.int .i64 (bdL (i + 1) : Nat)) wr := run_index80 i (bdL (i + 1)) wr h4 (bord_at i h4)
      have FEW := hid (hpt.few (by omega))
      have hos := hrw.len
      have hbd2 := bd_lt i h4
      have MS := hid (max_step f i h4)
      have KCL := hid (cls_at (f := f) (t := t) (i := i) h4 hs)
      have EX := hid (cuts_all i (by omega) _ (max f (bdL i)) (min t (bdL (i + 1) - 1)) (Nat.le_refl _))
      have PP := hid (Parts.put (f := f) (t := t) i l)
      have PS := hid (Parts.skip (f := f) (t := t) i l)
      have HMI := hid (show min t (bdL (i + 1) - 1) ≤ t by omega)
      obtain ⟨F, hF⟩ : ∃ F, F = max f (bdL i) := ⟨_, rfl⟩
      obtain ⟨BB, hB⟩ : ∃ BB, BB = bdL (i + 1) := ⟨_, rfl⟩
      obtain ⟨M, hM⟩ : ∃ M, M = min t (BB - 1) := ⟨_, rfl⟩
      have FX := hid (show max f BB = max F BB by rw [hB, hF]; exact MS.out.symm)
      rw [← hF] at AB KCL EX PP PS
      rw [← hB] at hix KCL EX PP PS hbd2 HMI
      rw [← hM] at KCL EX PP PS HMI
      obtain ⟨X, hX⟩ : ∃ X, X = max F BB := ⟨_, rfl⟩
      have hmin : min (t : Int) ((BB : Int) - 1) = (M : Int) := by omega
      have hmax : max (F : Int) (BB : Int) = (X : Int) := by omega
      have wB : IntKind.i64.wrap ((BB : Int) - 1) = (BB : Int) - 1 := by rw [IntKind.wrap_i64]; omega
      have HFX := hid (show max f (bdL (i + 1)) = X by rw [hX, ← FX.out, hB])
      have c0 : wr.cell? ⟨p, 0, none⟩ = some (.int .i64 (F : Nat)) := by simp [World.cell?, AB.out]
      have c1 : wr.cell? ⟨p, 1, none⟩ = some (.int .i64 (t : Nat)) := by simp [World.cell?, AB.out]
      have cf : ∀ j, wr.frozen? ⟨p, j, none⟩ = false := by intro j; simp [World.frozen?, AB.out]
      clear hpt hrb hrw hst hsz hF hB hM hX FX MS
      by_cases hle : F ≤ M
      · have hleI : (F : Int) ≤ (M : Int) := by omega
        obtain ⟨m, hcm⟩ := EX.out hle
        have TL := hid ((Touch.refl (fun _ => False) wr).alloc (.cells #[.int .i64 (F : Nat), .int .i64 (M : Nat)] 38))
        have A2 := hid (AR.out.still TL.out)
        have KK := hid (cut_all hcm (KCL.out hle) q v3 (o ++ os) (wr.alloc (.cells #[.int .i64 (F : Nat), .int .i64 (M : Nat)] 38)) A2.out.now (by rw [List.length_append, hos]; have := FEW.out; have := HMI.out; omega))
        have PM := hid (PP.out m PT.out hle hcm)
        have BX2 := hid ((TL.out.block p lp id).trans AB.out)
        have RW2 := hid (RW.out.new TL.out)
        have SZ2 := hid (Nat.le_trans SZ.out TL.out.size)
        clear EX hcm PP PS KCL FEW PT RW AR hos
        go_wp2_with fail
        generalize (wr.alloc (.cells #[.int .i64 (F : Nat), .int .i64 (M : Nat)] 38)) = w2 at *
        refine KK.out.mono ?_
        rintro e w3 ⟨rfl, v4, os4, hrb, hrw⟩
        have BX3 := hid ((hrb.touch.block p (lt_of_block BX2.out) (A2.out.apart38 p _ BX2.out)).trans BX2.out)
        have ALL := hid (rows_more A2.out RW2.out hrb hrw SZ2.out)
        have SZ3 := hid (Nat.le_trans SZ2.out hrb.touch.size)
        clear hrb hrw KK c0 c1 cf AB A2 TL BX2 RW2 SZ2
        have d0 : w3.cell? ⟨p, 0, none⟩ = some (.int .i64 (F : Nat)) := by simp [World.cell?, BX3.out]
        have df : ∀ j, w3.frozen? ⟨p, j, none⟩ = false := by intro j; simp [World.frozen?, BX3.out]
        have O4 := hid (ALL.out.1.setNew (i := 0) (u := .int .i64 (X : Nat)) HP.out BX3.out)
        have R4 := hid (ALL.out.2.set (i := 0) (u := .int .i64 (X : Nat)) HP1.out)
        have BX4 := hid (block_set BX3.out 0 (.int .i64 (X : Nat)))
        have SZ4 := hid (show w1.heap.size ≤ (w3.setCell ⟨p, 0, none⟩ (.int .i64 (X : Nat))).heap.size from Nat.le_trans SZ3.out ((Touch.refl (fun k => k = p) w3).setCell (p := ⟨p, 0, none⟩) (fun _ => rfl) _).size)
        clear ALL BX3
        go_wp2
        go_roundg gk
        case measure => omega
        case rel => exact ⟨i + 1, by omega, by first | rfl | go_num, SZ4.out, by rw [HFX.out]; exact BX4.out, _, v4, _, PM.out, O4.out, R4.out⟩
      · have hleI : ¬ ((F : Int) ≤ (M : Int)) := by omega
        have TS := hid ((Touch.refl (fun k => k = p) wr).setCell (p := ⟨p, 0, none⟩) (fun _ => rfl) (.int .i64 (X : Nat)))
        have TL := hid ((Touch.refl (fun _ => False) (wr.setCell ⟨p, 0, none⟩ (.int .i64 (X : Nat)))).alloc (.cells #[.int .i64 (F : Nat), .int .i64 (M : Nat)] 38))
        have BX2 := hid (block_set AB.out 0 (.int .i64 (X : Nat)))
        have O4 := hid ((AR.out.setNew (i := 0) (u := .int .i64 (X : Nat)) HP.out AB.out).still TL.out)
        have R4 := hid ((RW.out.set (i := 0) (u := .int .i64 (X : Nat)) HP1.out).new TL.out)
        have BX4 := hid ((TL.out.block p (lt_of_block BX2.out) id).trans BX2.out)
        have SZ4 := hid (Nat.le_trans SZ.out (Nat.le_trans TS.out.size TL.out.size))
        have PM := hid (PS.out PT.out hle)
        clear AR TL TS RW PT EX PP PS KCL FEW
        go_wp2
        go_roundg gk
        case measure => omega
        case rel => exact ⟨i + 1, by omega, by first | rfl | go_num, SZ4.out, by rw [HFX.out]; exact BX4.out, _, v3, _, PM.out, O4.out, R4.out⟩
    · obtain rfl : i = 4 := by omega
      have F3 := hid (RW.out.from (Nat.le_of_lt (Nat.lt_of_le_of_lt HP.out HP1.out)))
      clear hpt hrb hrw hst hsz RW
      go_wp2
      refine bodyPost_end (results_none rfl _ _ _) rfl ?_
      exact ⟨l, PT.out, rfl, v3, os, AR.out, F3.out⟩
end Go.Proofs.YtmokfheckngfiaaDoor
