/- Texts of this proof, one behind the other: what each says stands ahead of it. -/
import Derived.Test.YtdhhcefmmojcmaaGreatDoorM9
/- Does a text begin with a mark, and where its scalars begin; condition: the two tables lie there. -/
namespace Go.Proofs.YtdhhcefmmojcmaaGreatDoor
open Go.RowKit

def begB (s p : ByteArray) : Bool := decide (p.size ≤ s.size) && ((s.extract 0 p.size).toList == p.toList)
set_option maxRecDepth 100000 in
theorem hasPrefix_lite (s p : ByteArray) (w : World) : Calls Tryz.prog 89 #[.string s, .string p] w fun e w' => e = .returned (.bool (begB s p)) ∧ w = w' := by
  by_cases h : p.size ≤ s.size
  · have hI : (p.size : Int) ≤ (s.size : Int) := by omega
    have HB := hid (show begB s p = ((s.extract 0 p.size).toList == p.toList) by unfold begB; rw [decide_eq_true h]; rfl)
    go_enter Tryz.func89, Tryz.ntmps89
    go_wp2
    go_ret
    exact ⟨by rw [HB.out]; rfl, rfl⟩
  · have hI : ¬ ((p.size : Int) ≤ (s.size : Int)) := by omega
    have HB := hid (show begB s p = false by unfold begB; rw [decide_eq_false h]; rfl)
    go_enter Tryz.func89, Tryz.ntmps89
    go_wp2
    go_ret
    exact ⟨by rw [HB.out]; rfl, rfl⟩
set_option maxRecDepth 100000 in
theorem hasPrefix_any (s p : ByteArray) (w : World) : Calls Tryz.prog 61 #[.string s, .string p] w fun e w' => e = .returned (.bool (begB s p)) ∧ w = w' := by
  have K := hid (hasPrefix_lite s p w)
  go_enter Tryz.func61, Tryz.ntmps61
  go_wp2_with fail
  refine K.out.mono ?_
  rintro e w1 ⟨rfl, rfl⟩
  go_wp2
  go_ret
  exact ⟨rfl, rfl⟩
def mk (c : Nat) : ByteArray := if c = 1 then ⟨#[239, 187, 191]⟩ else if c = 2 then ⟨#[255, 254]⟩ else if c = 3 then ⟨#[254, 255]⟩ else ⟨#[]⟩
theorem mk_cell {w : World} (h : TabsK w) (c : Nat) (hc : c < 5) : w.cell? ⟨0, c, none⟩ = some (.string (mk c)) := by
  obtain ⟨⟨t, h0⟩, _⟩ := h
  unfold World.cell?
  rw [h0]
  rcases (show c = 0 ∨ c = 1 ∨ c = 2 ∨ c = 3 ∨ c = 4 by omega) with rfl | rfl | rfl | rfl | rfl <;> rfl
theorem mk_size (c : Nat) : (mk c).size ≤ 3 := by
  unfold mk
  split
  · decide
  · split
    · decide
    · split <;> decide
/-- What Sniff tells: from such a coding on. -/
def sn (s : ByteArray) : Nat → Nat → Nat × Nat
  | 0, _ => (1, 0)
  | k + 1, c => if begB s (mk c) then (c, (mk c).size) else sn s k (c + 1)

set_option maxRecDepth 100000 in
set_option maxHeartbeats 4000000 in
theorem sniff_any (s : ByteArray) (w : World) (ht : TabsK w) : Calls Tryz.prog 60 #[.string s] w fun e w' => e = .returned (.tuple #[.int .i64 ((sn s 3 1).1 : Nat), .int .i64 ((sn s 3 1).2 : Nat)]) ∧ Touch (fun _ => False) w w' := by
  have HT := hid ht
  obtain ⟨R, hR⟩ : ∃ R, sn s 3 1 = R := ⟨_, rfl⟩
  have HR := hid hR
  rw [hR]
  clear ht hR
  go_enter Tryz.func60, Tryz.ntmps60
  go_wp2_with fail
  go_loopg [4] 3 (fun gk i wq => ∃ k : Nat, k + gk = 4 ∧ 1 ≤ k ∧ i = .int .i64 (k : Nat) ∧ sn s gk k = R ∧ w = wq)
  case atStart => exact ⟨1, rfl, Nat.le_refl _, rfl, HR.out, rfl⟩
  case round =>
    obtain ⟨k, hk, h1, rfl, hsn, rfl⟩ := hrel
    have HS := hid hsn
    clear hsn HR
    by_cases hlt : k ≤ 3
    · obtain ⟨gk, rfl⟩ : ∃ q, gk = q + 1 := ⟨gk - 1, by omega⟩
      have d0 := mk_cell HT.out k (by omega)
      have HST := hid (show (if begB s (mk k) then (k, (mk k).size) else sn s gk (k + 1)) = R from HS.out)
      have hms := mk_size k
      have KH := hid (hasPrefix_any s (mk k) w)
      have hkI : (k : Int) ≤ 3 := by omega
      clear HS
      generalize mk k = p at *
      obtain ⟨X, hX⟩ : ∃ X, begB s p = X := ⟨_, rfl⟩
      rw [hX] at HST KH
      clear hX
      cases X
      · have HRE := hid (show sn s gk (k + 1) = R from HST.out)
        go_wp2_with fail
        refine KH.out.mono ?_
        rintro e w1 ⟨rfl, rfl⟩
        go_wp2
        go_roundg gk
        case measure => omega
        case rel => exact ⟨k + 1, by omega, by omega, by go_num, HRE.out, rfl⟩
      · have HRE := hid (show (k, p.size) = R from HST.out)
        go_wp2_with fail
        refine KH.out.mono ?_
        rintro e w1 ⟨rfl, rfl⟩
        go_wp2_with fail
        go_quiet (fail)
        go_wp2
        go_ret2
        exact ⟨by rw [← HRE.out]; rfl, (Touch.refl _ _).drewN _⟩
    · obtain rfl : gk = 0 := by omega
      have HRE := hid (show (1, 0) = R from HS.out)
      have hkI : ¬ ((k : Int) ≤ 3) := by omega
      go_wp2
      go_ret2
      exact ⟨by rw [← HRE.out]; rfl, Touch.refl _ _⟩

/-- The coding that is used, and where its scalars begin. -/
def bg (s : ByteArray) (c : Nat) : Nat × Nat := if c = 0 then sn s 3 1 else if begB s (mk c) then (c, (mk c).size) else (c, 0)
set_option maxRecDepth 100000 in
set_option maxHeartbeats 4000000 in
theorem beginning_any (s : ByteArray) (c : Nat) (hc : c ≤ 4) (w : World) (ht : TabsK w) : Calls Tryz.prog 42 #[.string s, .int .i64 c] w fun e w' => e = .returned (.tuple #[.int .i64 ((bg s c).1 : Nat), .int .i64 ((bg s c).2 : Nat)]) ∧ Touch (fun _ => False) w w' := by
  by_cases h0 : c = 0
  · subst h0
    have KS := hid (sniff_any s w ht)
    rw [show bg s 0 = sn s 3 1 from rfl]
    generalize sn s 3 1 = R at *
    clear ht
    go_enter Tryz.func42, Tryz.ntmps42
    go_wp2_with fail
    refine KS.out.mono ?_
    rintro e w1 ⟨rfl, tc⟩
    have T := hid tc
    clear tc KS
    go_wp2
    go_ret2
    exact ⟨rfl, T.out⟩
  · obtain ⟨R, hR⟩ : ∃ R, bg s c = R := ⟨_, rfl⟩
    have HR := hid hR
    unfold bg at HR
    rw [if_neg h0] at HR
    rw [hR]
    have d0 := mk_cell ht c (by omega)
    have hms := mk_size c
    have KH := hid (hasPrefix_any s (mk c) w)
    have hcd : decide ((c : Int) = 0) = false := decide_eq_false (by omega)
    have hcd2 : ((c : Int) == 0) = false := by rw [beq_eq_false_iff_ne]; omega
    have hcI : (c : Int) < 5 := by omega
    clear hR ht h0
    generalize mk c = p at *
    obtain ⟨X, hX⟩ : ∃ X, begB s p = X := ⟨_, rfl⟩
    rw [hX] at HR KH
    clear hX
    cases X
    · have HRE := hid (show (c, 0) = R from HR.out)
      go_enter Tryz.func42, Tryz.ntmps42
      go_wp2_with fail
      refine KH.out.mono ?_
      rintro e w1 ⟨rfl, rfl⟩
      go_wp2
      go_ret2
      exact ⟨by rw [← HRE.out]; rfl, Touch.refl _ _⟩
    · have HRE := hid (show (c, p.size) = R from HR.out)
      go_enter Tryz.func42, Tryz.ntmps42
      go_wp2_with fail
      refine KH.out.mono ?_
      rintro e w1 ⟨rfl, rfl⟩
      go_wp2_with fail
      go_quiet (fail)
      go_wp2
      go_ret2
      exact ⟨by rw [← HRE.out]; rfl, (Touch.refl _ _).drewN _⟩
end Go.Proofs.YtdhhcefmmojcmaaGreatDoor

/- A text under way: its two lists and what else it holds; no condition. -/
namespace Go.Proofs.YtdhhcefmmojcmaaGreatDoor
open Go.RowKit

/-- Two lists of numbers of the call's own, and a block of another type beside them. -/
structure L2 (W0 wr : World) (q : Nat) (ty : TypeId) (cs : Array Value) (v1 v2 : Value) (rs ps : List Int) : Prop where
  o1 : wr.ownsRow 0 3 1 v1 rs.length (encIK rs)
  o2 : wr.ownsRow 0 3 1 v2 ps.length (encIK ps)
  n1 : ∀ g, v1.ownBlock = some g → W0.heap.size ≤ g
  n2 : ∀ g, v2.ownBlock = some g → W0.heap.size ≤ g
  ne : ∀ g, v1.ownBlock = some g → v2.ownBlock ≠ some g
  blk : wr.heap[q]? = some (.cells cs ty (0, 0))
  touch : Touch (fun k => k = q) W0 wr

theorem own_block {w : World} {v : Value} {n : Nat} {xs : List Value} (h : w.ownsRow 0 3 1 v n xs) {g : Nat} (hg : v.ownBlock = some g) : ∃ cur, w.heap[g]? = some (.cells cur 3 (0, 0)) := by
  rcases h.2 with ⟨rfl, _⟩ | ⟨b, cap, cur, rfl, _, hh, _⟩
  · simp [Value.ownBlock] at hg
  · simp [Value.ownBlock] at hg
    subst hg
    exact ⟨cur, hh⟩
theorem own_kept {w w' : World} {v : Value} {n : Nat} {xs : List Value} (h : w.ownsRow 0 3 1 v n xs) (hb : ∀ g, v.ownBlock = some g → w'.heap[g]? = w.heap[g]?) : w'.ownsRow 0 3 1 v n xs := by
  refine ⟨h.1, ?_⟩
  rcases h.2 with h0 | ⟨g, cap, cur, rfl, hg, hh, rest⟩
  · exact .inl h0
  · exact .inr ⟨g, cap, cur, rfl, hg, (hb g rfl).trans hh, rest⟩
theorem L2.ne1 {W0 wr : World} {q : Nat} {ty : TypeId} {cs : Array Value} {v1 v2 : Value} {rs ps : List Int} (h : L2 W0 wr q ty cs v1 v2 rs ps) (ht : ty ≠ 3) : v1.ownBlock ≠ some q := fun e => by
  obtain ⟨cur, hc⟩ := own_block h.o1 e
  rw [h.blk] at hc
  simp at hc
  exact ht hc.2
theorem L2.ne2 {W0 wr : World} {q : Nat} {ty : TypeId} {cs : Array Value} {v1 v2 : Value} {rs ps : List Int} (h : L2 W0 wr q ty cs v1 v2 rs ps) (ht : ty ≠ 3) : v2.ownBlock ≠ some q := fun e => by
  obtain ⟨cur, hc⟩ := own_block h.o2 e
  rw [h.blk] at hc
  simp at hc
  exact ht hc.2
theorem L2.still {W0 wr w' : World} {q : Nat} {ty : TypeId} {cs : Array Value} {v1 v2 : Value} {rs ps : List Int} (h : L2 W0 wr q ty cs v1 v2 rs ps) (t : Touch (fun _ => False) wr w') : L2 W0 w' q ty cs v1 v2 rs ps :=
  ⟨own_kept h.o1 (fun g hg => t.block g (lt_of_block (own_block h.o1 hg).choose_spec) id), own_kept h.o2 (fun g hg => t.block g (lt_of_block (own_block h.o2 hg).choose_spec) id), h.n1, h.n2, h.ne, (t.block q (lt_of_block h.blk) id).trans h.blk, h.touch.trans t (fun _ _ e => e.elim)⟩
theorem L2.set {W0 wr : World} {q : Nat} {ty : TypeId} {cs : Array Value} {v1 v2 : Value} {rs ps : List Int} (h : L2 W0 wr q ty cs v1 v2 rs ps) (ht : ty ≠ 3) (i : Nat) (x : Value) : L2 W0 (wr.setCell ⟨q, i, none⟩ x) q ty (cs.set! i x) v1 v2 rs ps :=
  ⟨own_kept h.o1 (fun g hg => Below.heap_setCell _ _ _ _ (fun e => h.ne1 ht (by rw [hg, e]))), own_kept h.o2 (fun g hg => Below.heap_setCell _ _ _ _ (fun e => h.ne2 ht (by rw [hg, e]))), h.n1, h.n2, h.ne, block_set h.blk i x, h.touch.setCell (fun _ => rfl) x⟩
/-- One number more in the first list. -/
theorem L2.app1 {W0 wr w1 : World} {q : Nat} {ty : TypeId} {cs : Array Value} {v1 v2 v' : Value} {rs ps : List Int} {x : Int} {o : Obj} (h : L2 W0 wr q ty cs v1 v2 rs ps) (ht : ty ≠ 3) (hown : w1.ownsRow 0 3 1 v' (rs.length + 1) (encIK rs ++ [.int .i64 x])) (hg : (wr.alloc o).grownBy w1 v1.ownBlock) (hat : v'.ownBlock = v1.ownBlock ∨ v'.ownBlock = some (wr.heap.size + 1)) : L2 W0 w1 q ty cs v' v2 (rs ++ [x]) ps := by
  have key : ∀ k, k < wr.heap.size → v1.ownBlock ≠ some k → w1.heap[k]? = wr.heap[k]? := fun k hk hn => by
    rw [hg.block k (by simp; omega) (fun e => hn e.symm), Below.heap_alloc _ _ _ hk]
  refine ⟨?_, own_kept h.o2 (fun g e => key g (lt_of_block (own_block h.o2 e).choose_spec) (fun k => h.ne g k e)), fun g e => ?_, h.n2, fun g e k => ?_, (key q (lt_of_block h.blk) (h.ne1 ht)).trans h.blk, (h.touch.alloc o).grown hg (fun k e hk => by have := h.n1 k e; omega)⟩
  · rw [List.length_append, encIK, List.map_append]
    exact hown
  · rcases hat with k | k
    · exact h.n1 g (by rw [← k]; exact e)
    · rw [k] at e
      simp at e
      have := h.touch.size
      omega
  · rcases hat with z | z
    · exact h.ne g (by rw [← z]; exact e) k
    · rw [z] at e
      simp at e
      have := lt_of_block (own_block h.o2 k).choose_spec
      omega
/-- One number more in the second list. -/
theorem L2.app2 {W0 wr w1 : World} {q : Nat} {ty : TypeId} {cs : Array Value} {v1 v2 v' : Value} {rs ps : List Int} {x : Int} {o : Obj} (h : L2 W0 wr q ty cs v1 v2 rs ps) (ht : ty ≠ 3) (hown : w1.ownsRow 0 3 1 v' (ps.length + 1) (encIK ps ++ [.int .i64 x])) (hg : (wr.alloc o).grownBy w1 v2.ownBlock) (hat : v'.ownBlock = v2.ownBlock ∨ v'.ownBlock = some (wr.heap.size + 1)) : L2 W0 w1 q ty cs v1 v' rs (ps ++ [x]) := by
  have key : ∀ k, k < wr.heap.size → v2.ownBlock ≠ some k → w1.heap[k]? = wr.heap[k]? := fun k hk hn => by
    rw [hg.block k (by simp; omega) (fun e => hn e.symm), Below.heap_alloc _ _ _ hk]
  refine ⟨own_kept h.o1 (fun g e => key g (lt_of_block (own_block h.o1 e).choose_spec) (h.ne g e)), ?_, h.n1, fun g e => ?_, fun g e k => ?_, (key q (lt_of_block h.blk) (h.ne2 ht)).trans h.blk, (h.touch.alloc o).grown hg (fun k e hk => by have := h.n2 k e; omega)⟩
  · rw [List.length_append, encIK, List.map_append]
    exact hown
  · rcases hat with k | k
    · exact h.n2 g (by rw [← k]; exact e)
    · rw [k] at e
      simp at e
      have := h.touch.size
      omega
  · rcases hat with z | z
    · exact h.ne g e (by rw [← z]; exact k)
    · rw [z] at k
      simp at k
      have := lt_of_block (own_block h.o1 e).choose_spec
      omega

theorem results_cc {P : Program} {fn : Func} {p q : Tmp} {ty ty2 : TypeId} (h : fn.results = #[.cell p ty, .cell q ty2]) (tmps : Array Value) (w : World) (g g2 : Nat) (et et2 : TypeId) (cs cs2 : Array Value) (fr fr2 : Nat × Nat) (d d2 : TypeDesc)
    (hp : tmps.getD p undef = .pointer (some ⟨g, 0, none⟩)) (hg : w.heap[g]? = some (.cells cs et fr))
    (hu : P.underlying ty = some d) (hd : (match d with | .struct _ | .array _ _ => true | _ => false) = true) (hi : (P.info? ty).map (·.size) = some cs.size)
    (hp2 : tmps.getD q undef = .pointer (some ⟨g2, 0, none⟩)) (hg2 : w.heap[g2]? = some (.cells cs2 et2 fr2))
    (hu2 : P.underlying ty2 = some d2) (hd2 : (match d2 with | .struct _ | .array _ _ => true | _ => false) = true) (hi2 : (P.info? ty2).map (·.size) = some cs2.size) :
    (results fn tmps).run P w = .ok (.tuple #[.agg cs, .agg cs2]) w := by
  have hp' : tmps[p]?.getD undef = .pointer (some ⟨g, 0, none⟩) := by simpa using hp
  have hp2' : tmps[q]?.getD undef = .pointer (some ⟨g2, 0, none⟩) := by simpa using hp2
  simp [results, h, hp', hp2', asAddr, run_loadVar_row w g et ty cs fr d hg hu hd hi, run_loadVar_row w g2 et2 ty2 cs2 fr2 d2 hg2 hu2 hd2 hi2]

/-! ### How many bytes a scalar has -/
theorem tk16_size (U : Nat → Int) (i : Nat) : 1 ≤ (tk16 U i).2 ∧ (tk16 U i).2 ≤ 4 := by
  unfold tk16
  split
  · simp
  · split
    · simp
    · split <;> simp
theorem tkGo_size (s : ByteArray) (m : Nat) (hm : m ≤ 3) : ∀ (k i sc lo hi : Nat), 1 ≤ i → i + k = m + 1 → 1 ≤ (tkGo s m k i sc lo hi).2 ∧ (tkGo s m k i sc lo hi).2 ≤ 4
  | 0, i, sc, lo, hi, h1, h2 => by
    unfold tkGo
    dsimp only
    omega
  | k + 1, i, sc, lo, hi, h1, h2 => by
    unfold tkGo
    split
    · dsimp only
      omega
    · exact tkGo_size s m hm k (i + 1) _ _ _ (by omega) (by omega)
theorem tk8_size (s : ByteArray) : 1 ≤ (tk8 s).2 ∧ (tk8 s).2 ≤ 4 := by
  unfold tk8
  split
  · simp
  · rename_i l h
    have := lead_in h
    exact tkGo_size s l.more (by omega) l.more 1 _ _ _ (Nat.le_refl _) (by omega)
theorem tkAt_size (s : ByteArray) (c i : Nat) : 1 ≤ (tkAt s c i).2 ∧ (tkAt s c i).2 ≤ 4 := by
  unfold tkAt
  split
  · exact tk16_size _ _
  · split
    · exact tk16_size _ _
    · split
      · simp
      · exact tk8_size _
/-- The scalars from a place on: the place of the first that is bad, scalars, places, how many are bad. -/
def dcGo (s : ByteArray) (c : Nat) (strict : Bool) : Nat → Nat → List Int → List Int → Nat → Option Nat × List Int × List Int × Nat
  | 0, _, rs, ps, bad => (none, rs, ps, bad)
  | k + 1, i, rs, ps, bad =>
    if i < s.size then
      if (tkAt s c i).1 = -1 then
        if strict = true then (some i, [], [], 0) else dcGo s c strict k (i + (tkAt s c i).2) (rs ++ [65533]) (ps ++ [(i : Int)]) (bad + 1)
      else dcGo s c strict k (i + (tkAt s c i).2) (rs ++ [(tkAt s c i).1]) (ps ++ [(i : Int)]) bad
    else (none, rs, ps, bad)
theorem dc_end {s : ByteArray} {c : Nat} {strict : Bool} {k i : Nat} {rs ps : List Int} {bad : Nat} (h : s.size ≤ i) : dcGo s c strict k i rs ps bad = (none, rs, ps, bad) := by
  cases k with
  | zero => rfl
  | succ k =>
    unfold dcGo
    rw [if_neg (by omega)]
theorem dc_step {s : ByteArray} {c : Nat} {strict : Bool} {k i : Nat} {rs ps : List Int} {bad : Nat} (h : i < s.size) : dcGo s c strict (k + 1) i rs ps bad = if (tkAt s c i).1 = -1 then
        if strict = true then (some i, [], [], 0) else dcGo s c strict k (i + (tkAt s c i).2) (rs ++ [65533]) (ps ++ [(i : Int)]) (bad + 1)
      else dcGo s c strict k (i + (tkAt s c i).2) (rs ++ [(tkAt s c i).1]) (ps ++ [(i : Int)]) bad := by
  conv => lhs; unfold dcGo
  rw [if_pos h]
end Go.Proofs.YtdhhcefmmojcmaaGreatDoor
