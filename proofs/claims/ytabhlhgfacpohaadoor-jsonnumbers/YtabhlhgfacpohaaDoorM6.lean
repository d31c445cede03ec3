/- Texts of this proof, one behind the other: what each says stands ahead of it. -/
import Derived.Test.YtabhlhgfacpohaaDoorM5
import Derived.Test.YtabhlhgfacpohaaDoorM4
/- Does a text begin with a mark, and where its scalars begin; condition: the two tables lie there. -/
namespace Go.Proofs.YtabhlhgfacpohaaDoor
open Go.RowKit

def begB (s p : ByteArray) : Bool := decide (p.size ≤ s.size) && ((s.extract 0 p.size).toList == p.toList)
set_option maxRecDepth 100000 in
theorem hasPrefix_lite (s p : ByteArray) (w : World) : Calls Tryd.prog 69 #[.string s, .string p] w fun e w' => e = .returned (.bool (begB s p)) ∧ w = w' := by
  by_cases h : p.size ≤ s.size
  · have hI : (p.size : Int) ≤ (s.size : Int) := by omega
    have HB := hid (show begB s p = ((s.extract 0 p.size).toList == p.toList) by unfold begB; rw [decide_eq_true h]; rfl)
    go_enter Tryd.func69, Tryd.ntmps69
    go_wp2
    go_ret
    exact ⟨by rw [HB.out]; rfl, rfl⟩
  · have hI : ¬ ((p.size : Int) ≤ (s.size : Int)) := by omega
    have HB := hid (show begB s p = false by unfold begB; rw [decide_eq_false h]; rfl)
    go_enter Tryd.func69, Tryd.ntmps69
    go_wp2
    go_ret
    exact ⟨by rw [HB.out]; rfl, rfl⟩
set_option maxRecDepth 100000 in
theorem hasPrefix_any (s p : ByteArray) (w : World) : Calls Tryd.prog 41 #[.string s, .string p] w fun e w' => e = .returned (.bool (begB s p)) ∧ w = w' := by
  have K := hid (hasPrefix_lite s p w)
  go_enter Tryd.func41, Tryd.ntmps41
  go_wp2_with fail
  refine K.out.mono ?_
  rintro e w1 ⟨rfl, rfl⟩
  go_wp2
  go_ret
  exact ⟨rfl, rfl⟩
def mk (c : Nat) : ByteArray := if c = 1 then ⟨#[239, 187, 191]⟩ else if c = 2 then ⟨#[255, 254]⟩ else if c = 3 then ⟨#[254, 255]⟩ else ⟨#[]⟩
theorem mk_cell {w : World} (h : Tabs w) (c : Nat) (hc : c < 5) : w.cell? ⟨0, c, none⟩ = some (.string (mk c)) := by
  obtain ⟨⟨t, h0⟩, _⟩ := h
  unfold World.cell?
  rw [h0]
  rcases (show c = 0 ∨ c = 1 ∨ c = 2 ∨ c = 3 ∨ c = 4 by omega) with rfl | rfl | rfl | rfl | rfl <;> rfl
theorem mk_size (c : Nat) : (mk c).size ≤ 3 := by
  unfold mk
  split
  · decide
  · split
    · decide
    · split <;> decide
/-- What Sniff tells: from such a coding on. -/
def sn (s : ByteArray) : Nat → Nat → Nat × Nat
  | 0, _ => (1, 0)
  | k + 1, c => if begB s (mk c) then (c, (mk c).size) else sn s k (c + 1)

set_option maxRecDepth 100000 in
set_option maxHeartbeats 4000000 in
theorem sniff_any (s : ByteArray) (w : World) (ht : Tabs w) : Calls Tryd.prog 40 #[.string s] w fun e w' => e = .returned (.tuple #[.int .i64 ((sn s 3 1).1 : Nat), .int .i64 ((sn s 3 1).2 : Nat)]) ∧ Touch (fun _ => False) w w' := by
  have HT := hid ht
  obtain ⟨R, hR⟩ : ∃ R, sn s 3 1 = R := ⟨_, rfl⟩
  have HR := hid hR
  rw [hR]
  clear ht hR
  go_enter Tryd.func40, Tryd.ntmps40
  go_wp2_with fail
  go_loopg [4] 3 (fun gk i wq => ∃ k : Nat, k + gk = 4 ∧ 1 ≤ k ∧ i = .int .i64 (k : Nat) ∧ sn s gk k = R ∧ w = wq)
  case atStart => exact ⟨1, rfl, Nat.le_refl _, rfl, HR.out, rfl⟩
  case round =>
    obtain ⟨k, hk, h1, rfl, hsn, rfl⟩ := hrel
    have HS := hid hsn
    clear hsn HR
    by_cases hlt : k ≤ 3
    · obtain ⟨gk, rfl⟩ : ∃ q, gk = q + 1 := ⟨gk - 1, by omega⟩
      have d0 := mk_cell HT.out k (by omega)
      have HST := hid (show (if begB s (mk k) then (k, (mk k).size) else sn s gk (k + 1)) = R from HS.out)
      have hms := mk_size k
      have KH := hid (hasPrefix_any s (mk k) w)
      have hkI : (k : Int) ≤ 3 := by omega
      clear HS
      generalize mk k = p at *
      obtain ⟨X, hX⟩ : ∃ X, begB s p = X := ⟨_, rfl⟩
      rw [hX] at HST KH
      clear hX
      cases X
      · have HRE := hid (show sn s gk (k + 1) = R from HST.out)
        go_wp2_with fail
        refine KH.out.mono ?_
        rintro e w1 ⟨rfl, rfl⟩
        go_wp2
        go_roundg gk
        case measure => omega
        case rel => exact ⟨k + 1, by omega, by omega, by go_num, HRE.out, rfl⟩
      · have HRE := hid (show (k, p.size) = R from HST.out)
        go_wp2_with fail
        refine KH.out.mono ?_
        rintro e w1 ⟨rfl, rfl⟩
        go_wp2_with fail
        go_quiet (fail)
        go_wp2
        go_ret2
        exact ⟨by rw [← HRE.out]; rfl, (Touch.refl _ _).drewN _⟩
    · obtain rfl : gk = 0 := by omega
      have HRE := hid (show (1, 0) = R from HS.out)
      have hkI : ¬ ((k : Int) ≤ 3) := by omega
      go_wp2
      go_ret2
      exact ⟨by rw [← HRE.out]; rfl, Touch.refl _ _⟩

/-- The coding that is used, and where its scalars begin. -/
def bg (s : ByteArray) (c : Nat) : Nat × Nat := if c = 0 then sn s 3 1 else if begB s (mk c) then (c, (mk c).size) else (c, 0)
set_option maxRecDepth 100000 in
set_option maxHeartbeats 4000000 in
theorem beginning_any (s : ByteArray) (c : Nat) (hc : c ≤ 4) (w : World) (ht : Tabs w) : Calls Tryd.prog 24 #[.string s, .int .i64 c] w fun e w' => e = .returned (.tuple #[.int .i64 ((bg s c).1 : Nat), .int .i64 ((bg s c).2 : Nat)]) ∧ Touch (fun _ => False) w w' := by
  by_cases h0 : c = 0
  · subst h0
    have KS := hid (sniff_any s w ht)
    rw [show bg s 0 = sn s 3 1 from rfl]
    generalize sn s 3 1 = R at *
    clear ht
    go_enter Tryd.func24, Tryd.ntmps24
    go_wp2_with fail
    refine KS.out.mono ?_
    rintro e w1 ⟨rfl, tc⟩
    have T := hid tc
    clear tc KS
    go_wp2
    go_ret2
    exact ⟨rfl, T.out⟩
  · obtain ⟨R, hR⟩ : ∃ R, bg s c = R := ⟨_, rfl⟩
    have HR := hid hR
    unfold bg at HR
    rw [if_neg h0] at HR
    rw [hR]
    have d0 := mk_cell ht c (by omega)
    have hms := mk_size c
    have KH := hid (hasPrefix_any s (mk c) w)
    have hcd : decide ((c : Int) = 0) = false := decide_eq_false (by omega)
    have hcd2 : ((c : Int) == 0) = false := by rw [beq_eq_false_iff_ne]; omega
    have hcI : (c : Int) < 5 := by omega
    clear hR ht h0
    generalize mk c = p at *
    obtain ⟨X, hX⟩ : ∃ X, begB s p = X := ⟨_, rfl⟩
    rw [hX] at HR KH
    clear hX
    cases X
    · have HRE := hid (show (c, 0) = R from HR.out)
      go_enter Tryd.func24, Tryd.ntmps24
      go_wp2_with fail
      refine KH.out.mono ?_
      rintro e w1 ⟨rfl, rfl⟩
      go_wp2
      go_ret2
      exact ⟨by rw [← HRE.out]; rfl, Touch.refl _ _⟩
    · have HRE := hid (show (c, p.size) = R from HR.out)
      go_enter Tryd.func24, Tryd.ntmps24
      go_wp2_with fail
      refine KH.out.mono ?_
      rintro e w1 ⟨rfl, rfl⟩
      go_wp2_with fail
      go_quiet (fail)
      go_wp2
      go_ret2
      exact ⟨by rw [← HRE.out]; rfl, (Touch.refl _ _).drewN _⟩
end Go.Proofs.YtabhlhgfacpohaaDoor

/- A text under way: its two lists and what else it holds; no condition. -/
namespace Go.Proofs.YtabhlhgfacpohaaDoor
open Go.RowKit

/-- Two lists of numbers of the call's own, and a block of another type beside them. -/
structure L2 (W0 wr : World) (q : Nat) (ty : TypeId) (cs : Array Value) (v1 v2 : Value) (rs ps : List Int) : Prop where
  o1 : wr.ownsRow 0 3 1 v1 rs.length (encI rs)
  o2 : wr.ownsRow 0 3 1 v2 ps.length (encI ps)
  n1 : ∀ g, v1.ownBlock = some g → W0.heap.size ≤ g
  n2 : ∀ g, v2.ownBlock = some g → W0.heap.size ≤ g
  ne : ∀ g, v1.ownBlock = some g → v2.ownBlock ≠ some g
  blk : wr.heap[q]? = some (.cells cs ty (0, 0))
  touch : Touch (fun k => k = q) W0 wr

theorem own_block {w : World} {v : Value} {n : Nat} {xs : List Value} (h : w.ownsRow 0 3 1 v n xs) {g : Nat} (hg : v.ownBlock = some g) : ∃ cur, w.heap[g]? = some (.cells cur 3 (0, 0)) := by
  rcases h.2 with ⟨rfl, _⟩ | ⟨b, cap, cur, rfl, _, hh, _⟩
  · simp [Value.ownBlock] at hg
  · simp [Value.ownBlock] at hg
    subst hg
    exact ⟨cur, hh⟩
theorem own_kept {w w' : World} {v : Value} {n : Nat} {xs : List Value} (h : w.ownsRow 0 3 1 v n xs) (hb : ∀ g, v.ownBlock = some g → w'.heap[g]? = w.heap[g]?) : w'.ownsRow 0 3 1 v n xs := by
  refine ⟨h.1, ?_⟩
  rcases h.2 with h0 | ⟨g, cap, cur, rfl, hg, hh, rest⟩
  · exact .inl h0
  · exact .inr ⟨g, cap, cur, rfl, hg, (hb g rfl).trans hh, rest⟩
theorem L2.ne1 {W0 wr : World} {q : Nat} {ty : TypeId} {cs : Array Value} {v1 v2 : Value} {rs ps : List Int} (h : L2 W0 wr q ty cs v1 v2 rs ps) (ht : ty ≠ 3) : v1.ownBlock ≠ some q := fun e => by
  obtain ⟨cur, hc⟩ := own_block h.o1 e
  rw [h.blk] at hc
  simp at hc
  exact ht hc.2
theorem L2.ne2 {W0 wr : World} {q : Nat} {ty : TypeId} {cs : Array Value} {v1 v2 : Value} {rs ps : List Int} (h : L2 W0 wr q ty cs v1 v2 rs ps) (ht : ty ≠ 3) : v2.ownBlock ≠ some q := fun e => by
  obtain ⟨cur, hc⟩ := own_block h.o2 e
  rw [h.blk] at hc
  simp at hc
  exact ht hc.2
theorem L2.still {W0 wr w' : World} {q : Nat} {ty : TypeId} {cs : Array Value} {v1 v2 : Value} {rs ps : List Int} (h : L2 W0 wr q ty cs v1 v2 rs ps) (t : Touch (fun _ => False) wr w') : L2 W0 w' q ty cs v1 v2 rs ps :=
  ⟨own_kept h.o1 (fun g hg => t.block g (lt_of_block (own_block h.o1 hg).choose_spec) id), own_kept h.o2 (fun g hg => t.block g (lt_of_block (own_block h.o2 hg).choose_spec) id), h.n1, h.n2, h.ne, (t.block q (lt_of_block h.blk) id).trans h.blk, h.touch.trans t (fun _ _ e => e.elim)⟩
theorem L2.set {W0 wr : World} {q : Nat} {ty : TypeId} {cs : Array Value} {v1 v2 : Value} {rs ps : List Int} (h : L2 W0 wr q ty cs v1 v2 rs ps) (ht : ty ≠ 3) (i : Nat) (x : Value) : L2 W0 (wr.setCell ⟨q, i, none⟩ x) q ty (cs.set! i x) v1 v2 rs ps :=
  ⟨own_kept h.o1 (fun g hg => Below.heap_setCell _ _ _ _ (fun e => h.ne1 ht (by rw [hg, e]))), own_kept h.o2 (fun g hg => Below.heap_setCell _ _ _ _ (fun e => h.ne2 ht (by rw [hg, e]))), h.n1, h.n2, h.ne, block_set h.blk i x, h.touch.setCell (fun _ => rfl) x⟩
/-- One number more in the first list. -/
theorem L2.app1 {W0 wr w1 : World} {q : Nat} {ty : TypeId} {cs : Array Value} {v1 v2 v' : Value} {rs ps : List Int} {x : Int} {o : Obj} (h : L2 W0 wr q ty cs v1 v2 rs ps) (ht : ty ≠ 3) (hown : w1.ownsRow 0 3 1 v' (rs.length + 1) (encI rs ++ [.int .i64 x])) (hg : (wr.alloc o).grownBy w1 v1.ownBlock) (hat : v'.ownBlock = v1.ownBlock ∨ v'.ownBlock = some (wr.heap.size + 1)) : L2 W0 w1 q ty cs v' v2 (rs ++ [x]) ps := by
  have key : ∀ k, k < wr.heap.size → v1.ownBlock ≠ some k → w1.heap[k]? = wr.heap[k]? := fun k hk hn => by
    rw [hg.block k (by simp; omega) (fun e => hn e.symm), Below.heap_alloc _ _ _ hk]
  refine ⟨?_, own_kept h.o2 (fun g e => key g (lt_of_block (own_block h.o2 e).choose_spec) (fun k => h.ne g k e)), fun g e => ?_, h.n2, fun g e k => ?_, (key q (lt_of_block h.blk) (h.ne1 ht)).trans h.blk, (h.touch.alloc o).grown hg (fun k e hk => by have := h.n1 k e; omega)⟩
  · rw [List.length_append, encI, List.map_append]
    exact hown
  · rcases hat with k | k
    · exact h.n1 g (by rw [← k]; exact e)
    · rw [k] at e
      simp at e
      have := h.touch.size
      omega
  · rcases hat with z | z
    · exact h.ne g (by rw [← z]; exact e) k
    · rw [z] at e
      simp at e
      have := lt_of_block (own_block h.o2 k).choose_spec
      omega
/-- One number more in the second list. -/
theorem L2.app2 {W0 wr w1 : World} {q : Nat} {ty : TypeId} {cs : Array Value} {v1 v2 v' : Value} {rs ps : List Int} {x : Int} {o : Obj} (h : L2 W0 wr q ty cs v1 v2 rs ps) (ht : ty ≠ 3) (hown : w1.ownsRow 0 3 1 v' (ps.length + 1) (encI ps ++ [.int .i64 x])) (hg : (wr.alloc o).grownBy w1 v2.ownBlock) (hat : v'.ownBlock = v2.ownBlock ∨ v'.ownBlock = some (wr.heap.size + 1)) : L2 W0 w1 q ty cs v1 v' rs (ps ++ [x]) := by
  have key : ∀ k, k < wr.heap.size → v2.ownBlock ≠ some k → w1.heap[k]? = wr.heap[k]? := fun k hk hn => by
    rw [hg.block k (by simp; omega) (fun e => hn e.symm), Below.heap_alloc _ _ _ hk]
  refine ⟨own_kept h.o1 (fun g e => key g (lt_of_block (own_block h.o1 e).choose_spec) (h.ne g e)), ?_, h.n1, fun g e => ?_, fun g e k => ?_, (key q (lt_of_block h.blk) (h.ne2 ht)).trans h.blk, (h.touch.alloc o).grown hg (fun k e hk => by have := h.n2 k e; omega)⟩
  · rw [List.length_append, encI, List.map_append]
    exact hown
  · rcases hat with k | k
    · exact h.n2 g (by rw [← k]; exact e)
    · rw [k] at e
      simp at e
      have := h.touch.size
      omega
  · rcases hat with z | z
    · exact h.ne g e (by rw [← z]; exact k)
    · rw [z] at k
      simp at k
      have := lt_of_block (own_block h.o1 e).choose_spec
      omega

theorem results_cc {P : Program} {fn : Func} {p q : Tmp} {ty ty2 : TypeId} (h : fn.results = #[.cell p ty, .cell q ty2]) (tmps : Array Value) (w : World) (g g2 : Nat) (et et2 : TypeId) (cs cs2 : Array Value) (fr fr2 : Nat × Nat) (d d2 : TypeDesc)
    (hp : tmps.getD p undef = .pointer (some ⟨g, 0, none⟩)) (hg : w.heap[g]? = some (.cells cs et fr))
    (hu : P.underlying ty = some d) (hd : (match d with | .struct _ | .array _ _ => true | _ => false) = true) (hi : (P.info? ty).map (·.size) = some cs.size)
    (hp2 : tmps.getD q undef = .pointer (some ⟨g2, 0, none⟩)) (hg2 : w.heap[g2]? = some (.cells cs2 et2 fr2))
    (hu2 : P.underlying ty2 = some d2) (hd2 : (match d2 with | .struct _ | .array _ _ => true | _ => false) = true) (hi2 : (P.info? ty2).map (·.size) = some cs2.size) :
    (results fn tmps).run P w = .ok (.tuple #[.agg cs, .agg cs2]) w := by
  have hp' : tmps[p]?.getD undef = .pointer (some ⟨g, 0, none⟩) := by simpa using hp
  have hp2' : tmps[q]?.getD undef = .pointer (some ⟨g2, 0, none⟩) := by simpa using hp2
  simp [results, h, hp', hp2', asAddr, run_loadVar_row w g et ty cs fr d hg hu hd hi, run_loadVar_row w g2 et2 ty2 cs2 fr2 d2 hg2 hu2 hd2 hi2]

/-! ### How many bytes a scalar has -/
theorem tk16_size (U : Nat → Int) (i : Nat) : 1 ≤ (tk16 U i).2 ∧ (tk16 U i).2 ≤ 4 := by
  unfold tk16
  split
  · simp
  · split
    · simp
    · split <;> simp
theorem tkGo_size (s : ByteArray) (m : Nat) (hm : m ≤ 3) : ∀ (k i sc lo hi : Nat), 1 ≤ i → i + k = m + 1 → 1 ≤ (tkGo s m k i sc lo hi).2 ∧ (tkGo s m k i sc lo hi).2 ≤ 4
  | 0, i, sc, lo, hi, h1, h2 => by
    unfold tkGo
    dsimp only
    omega
  | k + 1, i, sc, lo, hi, h1, h2 => by
    unfold tkGo
    split
    · dsimp only
      omega
    · exact tkGo_size s m hm k (i + 1) _ _ _ (by omega) (by omega)
theorem tk8_size (s : ByteArray) : 1 ≤ (tk8 s).2 ∧ (tk8 s).2 ≤ 4 := by
  unfold tk8
  split
  · simp
  · rename_i l h
    have := lead_in h
    exact tkGo_size s l.more (by omega) l.more 1 _ _ _ (Nat.le_refl _) (by omega)
theorem tkAt_size (s : ByteArray) (c i : Nat) : 1 ≤ (tkAt s c i).2 ∧ (tkAt s c i).2 ≤ 4 := by
  unfold tkAt
  split
  · exact tk16_size _ _
  · split
    · exact tk16_size _ _
    · split
      · simp
      · exact tk8_size _
/-- The scalars from a place on: the place of the first that is bad, scalars, places, how many are bad. -/
def dcGo (s : ByteArray) (c : Nat) (strict : Bool) : Nat → Nat → List Int → List Int → Nat → Option Nat × List Int × List Int × Nat
  | 0, _, rs, ps, bad => (none, rs, ps, bad)
  | k + 1, i, rs, ps, bad =>
    if i < s.size then
      if (tkAt s c i).1 = -1 then
        if strict = true then (some i, [], [], 0) else dcGo s c strict k (i + (tkAt s c i).2) (rs ++ [65533]) (ps ++ [(i : Int)]) (bad + 1)
      else dcGo s c strict k (i + (tkAt s c i).2) (rs ++ [(tkAt s c i).1]) (ps ++ [(i : Int)]) bad
    else (none, rs, ps, bad)
theorem dc_end {s : ByteArray} {c : Nat} {strict : Bool} {k i : Nat} {rs ps : List Int} {bad : Nat} (h : s.size ≤ i) : dcGo s c strict k i rs ps bad = (none, rs, ps, bad) := by
  cases k with
  | zero => rfl
  | succ k =>
    unfold dcGo
    rw [if_neg (by omega)]
theorem dc_step {s : ByteArray} {c : Nat} {strict : Bool} {k i : Nat} {rs ps : List Int} {bad : Nat} (h : i < s.size) : dcGo s c strict (k + 1) i rs ps bad = if (tkAt s c i).1 = -1 then
        if strict = true then (some i, [], [], 0) else dcGo s c strict k (i + (tkAt s c i).2) (rs ++ [65533]) (ps ++ [(i : Int)]) (bad + 1)
      else dcGo s c strict k (i + (tkAt s c i).2) (rs ++ [(tkAt s c i).1]) (ps ++ [(i : Int)]) bad := by
  conv => lhs; unfold dcGo
  rw [if_pos h]
end Go.Proofs.YtabhlhgfacpohaaDoor

/- A parser of JSON: whole, given what value answers; condition: the text has at most 1048576 bytes. -/
namespace Go.Proofs.YtabhlhgfacpohaaDoor
open Go.RowKit

def zV : Value := .agg #[.int .i64 0, .string ⟨#[]⟩, .slice none 0 0, .slice none 0 0]
def fV (c t : Nat) : Value := .agg #[.int .i64 (c : Nat), .int .i64 (t : Nat)]
theorem size_alloc1 (w : World) (o : Obj) : (w.alloc o).heap.size = w.heap.size + 1 := by
  show (w.heap.push _).size = _
  rw [Array.size_push]
theorem begin2 {w : World} {b : Nat} (hb : b < w.heap.size) :
    ((w.alloc (.cells #[.int .i64 0, .string ⟨#[]⟩, .slice none 0 0, .slice none 0 0] 26)).alloc (.cells #[.int .i64 0, .int .i64 0] 29)).heap[w.heap.size]? = some (.cells #[.int .i64 0, .string ⟨#[]⟩, .slice none 0 0, .slice none 0 0] 26 (0, 0)) ∧
    ((w.alloc (.cells #[.int .i64 0, .string ⟨#[]⟩, .slice none 0 0, .slice none 0 0] 26)).alloc (.cells #[.int .i64 0, .int .i64 0] 29)).heap[w.heap.size + 1]? = some (.cells #[.int .i64 0, .int .i64 0] 29 (0, 0)) ∧
    Touch (fun _ => False) w ((w.alloc (.cells #[.int .i64 0, .string ⟨#[]⟩, .slice none 0 0, .slice none 0 0] 26)).alloc (.cells #[.int .i64 0, .int .i64 0] 29)) ∧
    (b < w.heap.size ∧ w.heap.size ≤ w.heap.size ∧ w.heap.size < w.heap.size + 1) := by
  refine ⟨?_, ?_, ((Touch.refl _ _).alloc _).alloc _, hb, Nat.le_refl _, Nat.lt_succ_self _⟩
  · have T := (Touch.refl (fun _ => False) (w.alloc (.cells #[.int .i64 0, .string ⟨#[]⟩, .slice none 0 0, .slice none 0 0] 26))).alloc (.cells #[.int .i64 0, .int .i64 0] 29)
    exact (T.block _ (by rw [size_alloc1]; omega) id).trans (jfour_new _ _ _ _ _)
  · have := jtwo_new (w := w.alloc (.cells #[.int .i64 0, .string ⟨#[]⟩, .slice none 0 0, .slice none 0 0] 26)) (.int .i64 0) (.int .i64 0) 29
    rw [size_alloc1] at this
    exact this
set_option maxRecDepth 100000 in
set_option maxHeartbeats 4000000 in
theorem whole_bad (b : Nat) (s : ByteArray) (c k : Nat) (w : World) (h : Ps w b s 0 0)
    (K : ∀ w', Ps w' b s 0 0 → Calls Tryd.prog 32 #[.pointer (some ⟨b, 0, none⟩)] w' fun e w'' => e = thrown c k ∧ Touch (fun k => k = b) w' w'') :
    Calls Tryd.prog 19 #[.pointer (some ⟨b, 0, none⟩)] w fun e w' => e = .returned (.tuple #[zV, fV c k]) ∧ Touch (fun k => k = b) w w' := by
  have hmf : ∀ (fn : Fn) (first cap : Array Value) (w : World), (Instr.makeFunc fn first cap).run Tryd.prog w = .ok (.func fn first cap) w := fun _ _ _ _ => rfl
  have B := hid (begin2 h.lt)
  have H0 := hid (h.new B.out.2.2.1)
  have KH := hid K
  clear K h
  unfold thrown at KH
  go_enter_defers Tryd.func19, Tryd.ntmps19
  go_upto_region 2 with fail
  generalize (w.alloc (.cells #[.int .i64 0, .string ⟨#[]⟩, .slice none 0 0, .slice none 0 0] 26)).alloc (.cells #[.int .i64 0, .int .i64 0] 29) = w1 at *
  obtain ⟨BA, BB, T1, L⟩ := B.out
  clear B
  replace BA := hid BA
  replace BB := hid BB
  replace T1 := hid T1
  obtain ⟨p, hp⟩ : ∃ p, p = w.heap.size := ⟨_, rfl⟩
  obtain ⟨q, hq⟩ : ∃ q, q = w.heap.size + 1 := ⟨_, rfl⟩
  have HL := hid (show b < p ∧ w.heap.size ≤ p ∧ p < q from by rw [hp, hq]; exact L)
  clear L
  rw [← hq] at BB ⊢
  rw [← hp] at BA ⊢
  clear hp hq
  go_wp2_with fail
  refine (KH.out w1 H0.out).mono ?_
  rintro e w2 ⟨rfl, tt⟩
  have P2 := hid ((tt.block p (lt_of_block BA.out) (fun e => by have := HL.out; omega)).trans BA.out)
  have Q2 := hid ((tt.block q (lt_of_block BB.out) (fun e => by have := HL.out; omega)).trans BB.out)
  have T2 := hid (Touch.trans (S := fun k => k = b) (T1.out.mono (fun _ _ e => e.elim)) tt (fun _ _ e => e))
  skip
  clear tt KH H0 BA BB T1
  go_wp2
  refine leaves_cons (f := 31) (args := #[.pointer (some ⟨p, 0, none⟩), .pointer (some ⟨q, 0, none⟩)]) (by simp) (by simp [go_sem]) ?_
  refine (catch_thrown p q c k [] w2 _ _ _ _ _ _ P2.out Q2.out (by have := HL.out; omega)).mono ?_
  rintro e u' w9 ⟨rfl, rfl, P9, Q9, t9⟩
  exact ⟨_, results_cc rfl _ _ p q 26 29 _ _ (0, 0) (0, 0) _ _ rfl P9 Tryd.underlying26 rfl (by kernel_rfl) rfl Q9 Tryd.underlying29 rfl (by kernel_rfl), rfl, T2.out.trans t9 (fun i hi e => by have := HL.out; omega)⟩

set_option maxRecDepth 100000 in
set_option maxHeartbeats 4000000 in
theorem whole_ok (b : Nat) (s : ByteArray) (u d : Nat) (vk : Nat) (vt : ByteArray) (a2 a3 : Option Addr) (n2 n3 c2 c3 : Nat) (w : World) (h : Ps w b s 0 0) (hs : s.size ≤ 1048576) (hu : u ≤ s.size)
    (K : ∀ w', Ps w' b s 0 0 → Calls Tryd.prog 32 #[.pointer (some ⟨b, 0, none⟩)] w' fun e w'' => e = .returned (.agg #[.int .i64 (vk : Nat), .string vt, .slice a2 n2 c2, .slice a3 n3 c3]) ∧ Ps w'' b s u d ∧ Touch (fun k => k = b) w' w'') :
    Calls Tryd.prog 19 #[.pointer (some ⟨b, 0, none⟩)] w fun e w' => e = .returned (if u = s.size then .tuple #[.agg #[.int .i64 (vk : Nat), .string vt, .slice a2 n2 c2, .slice a3 n3 c3], fV 0 0] else .tuple #[zV, fV 20 u]) ∧ Touch (fun k => k = b) w w' := by
  have KL := hid (fun w' (hp : Ps w' b s u d) => look_any b s u d w' hp hs hu)
  have KW := hid (fun w' (hp : Ps w' b s u d) => wrong_any b s u d 20 w' hp)
  unfold thrown at KW
  have HE := hid (show u = s.size ↔ lk s u = -1 from by
    unfold lk
    constructor
    · intro e
      rw [List.getElem?_eq_none (by rw [size_list]; omega)]
    · intro e
      by_cases hl : u < s.size
      · rw [at_opt s u hl] at e
        simp only at e
        omega
      · omega)
  have hmf : ∀ (fn : Fn) (first cap : Array Value) (w : World), (Instr.makeFunc fn first cap).run Tryd.prog w = .ok (.func fn first cap) w := fun _ _ _ _ => rfl
  have B := hid (begin2 h.lt)
  have H0 := hid (h.new B.out.2.2.1)
  have KH := hid K
  clear K h
  skip
  go_enter_defers Tryd.func19, Tryd.ntmps19
  go_upto_region 2 with fail
  generalize (w.alloc (.cells #[.int .i64 0, .string ⟨#[]⟩, .slice none 0 0, .slice none 0 0] 26)).alloc (.cells #[.int .i64 0, .int .i64 0] 29) = w1 at *
  obtain ⟨BA, BB, T1, L⟩ := B.out
  clear B
  replace BA := hid BA
  replace BB := hid BB
  replace T1 := hid T1
  obtain ⟨p, hp⟩ : ∃ p, p = w.heap.size := ⟨_, rfl⟩
  obtain ⟨q, hq⟩ : ∃ q, q = w.heap.size + 1 := ⟨_, rfl⟩
  have HL := hid (show b < p ∧ w.heap.size ≤ p ∧ p < q from by rw [hp, hq]; exact L)
  clear L
  rw [← hq] at BB ⊢
  rw [← hp] at BA ⊢
  clear hp hq
  go_wp2_with fail
  refine (KH.out w1 H0.out).mono ?_
  rintro e w2 ⟨rfl, hp2, tt⟩
  have P2 := hid ((tt.block p (lt_of_block BA.out) (fun e => by have := HL.out; omega)).trans BA.out)
  have Q2 := hid ((tt.block q (lt_of_block BB.out) (fun e => by have := HL.out; omega)).trans BB.out)
  have T2 := hid (Touch.trans (S := fun k => k = b) (T1.out.mono (fun _ _ e => e.elim)) tt (fun _ _ e => e))
  have H2 := hid hp2
  clear tt KH H0 BA BB T1
  have p2 := P2.out
  have ca0 : w2.cell? ⟨p, 0, none⟩ = some (.int .i64 0) := by simp [World.cell?, p2]
  have ca1 : w2.cell? ⟨p, 1, none⟩ = some (.string ⟨#[]⟩) := by simp [World.cell?, p2]
  have ca2 : w2.cell? ⟨p, 2, none⟩ = some (.slice none 0 0) := by simp [World.cell?, p2]
  have ca3 : w2.cell? ⟨p, 3, none⟩ = some (.slice none 0 0) := by simp [World.cell?, p2]
  have e0 : w2.frozen? ⟨p, 0, none⟩ = false := by simp [World.frozen?, p2]
  have e1 : w2.frozen? ⟨p, 1, none⟩ = false := by simp [World.frozen?, p2]
  have e2 : w2.frozen? ⟨p, 2, none⟩ = false := by simp [World.frozen?, p2]
  have e3 : w2.frozen? ⟨p, 3, none⟩ = false := by simp [World.frozen?, p2]
  clear p2 hp2
  go_upto_region 3 with fail
  have P3 := hid (jfour_set P2.out (.int .i64 (vk : Nat)) (.string vt) (.slice a2 n2 c2) (.slice a3 n3 c3))
  have H3 := hid (H2.out.four (q := p) (by have := HL.out; omega) (.int .i64 (vk : Nat)) (.string vt) (.slice a2 n2 c2) (.slice a3 n3 c3))
  have T3 := hid (jfour_touch T2.out (q := p) (by have := HL.out; omega) (.int .i64 (vk : Nat)) (.string vt) (.slice a2 n2 c2) (.slice a3 n3 c3))
  have Q3 := hid (show ((((w2.setCell ⟨p, 0, none⟩ (.int .i64 (vk : Nat))).setCell ⟨p, 1, none⟩ (.string vt)).setCell ⟨p, 2, none⟩ (.slice a2 n2 c2)).setCell ⟨p, 3, none⟩ (.slice a3 n3 c3)).heap[q]? = some (.cells #[.int .i64 0, .int .i64 0] 29 (0, 0)) from by
    have n6 : q ≠ p := by have := HL.out; omega
    rw [Below.heap_setCell _ _ _ _ n6, Below.heap_setCell _ _ _ _ n6, Below.heap_setCell _ _ _ _ n6, Below.heap_setCell _ _ _ _ n6]
    exact Q2.out)
  generalize (((w2.setCell ⟨p, 0, none⟩ (.int .i64 (vk : Nat))).setCell ⟨p, 1, none⟩ (.string vt)).setCell ⟨p, 2, none⟩ (.slice a2 n2 c2)).setCell ⟨p, 3, none⟩ (.slice a3 n3 c3) = w3 at *
  clear ca0 ca1 ca2 ca3 e0 e1 e2 e3 P2 H2 T2 Q2
  go_wp2_with fail
  refine (KL.out w3 H3.out).mono ?_
  rintro e w4 ⟨rfl, tt⟩
  have P4 := hid ((tt.block p (lt_of_block P3.out) id).trans P3.out)
  have Q4 := hid ((tt.block q (lt_of_block Q3.out) id).trans Q3.out)
  have T4 := hid (T3.out.trans tt (fun _ _ e => e.elim))
  have H4 := hid (H3.out.new tt)
  clear tt KL P3 Q3 T3 H3
  by_cases hend : lk s u = -1
  · have HU := hid (HE.out.2 hend)
    have hB : ((lk s u) != (-1 : Int)) = false := by simpa using hend
    generalize lk s u = x at *
    subst hend
    clear KW HE
    have p4 := P4.out
    have q4 := Q4.out
    have ca0 : w4.cell? ⟨p, 0, none⟩ = some (.int .i64 (vk : Nat)) := by simp [World.cell?, p4]
    have ca1 : w4.cell? ⟨p, 1, none⟩ = some (.string vt) := by simp [World.cell?, p4]
    have ca2 : w4.cell? ⟨p, 2, none⟩ = some (.slice a2 n2 c2) := by simp [World.cell?, p4]
    have ca3 : w4.cell? ⟨p, 3, none⟩ = some (.slice a3 n3 c3) := by simp [World.cell?, p4]
    have e0 : w4.frozen? ⟨p, 0, none⟩ = false := by simp [World.frozen?, p4]
    have e1 : w4.frozen? ⟨p, 1, none⟩ = false := by simp [World.frozen?, p4]
    have e2 : w4.frozen? ⟨p, 2, none⟩ = false := by simp [World.frozen?, p4]
    have e3 : w4.frozen? ⟨p, 3, none⟩ = false := by simp [World.frozen?, p4]
    have g0 : w4.cell? ⟨q, 0, none⟩ = some (.int .i64 0) := by simp [World.cell?, q4]
    have g1 : w4.cell? ⟨q, 1, none⟩ = some (.int .i64 0) := by simp [World.cell?, q4]
    have f0 : w4.frozen? ⟨q, 0, none⟩ = false := by simp [World.frozen?, q4]
    have f1 : w4.frozen? ⟨q, 1, none⟩ = false := by simp [World.frozen?, q4]
    clear p4 q4
    have n5 : ¬ p = q := by have := HL.out; omega
    have n6 : ¬ q = p := by have := HL.out; omega
    go_wp2
    clear ca0 ca1 ca2 ca3 e0 e1 e2 e3 g0 g1 f0 f1
    have P5 := jfour_set P4.out (.int .i64 (vk : Nat)) (.string vt) (.slice a2 n2 c2) (.slice a3 n3 c3)
    have T5 := jfour_touch T4.out (q := p) (by have := HL.out; omega) (.int .i64 (vk : Nat)) (.string vt) (.slice a2 n2 c2) (.slice a3 n3 c3)
    have Q5 : ((((w4.setCell ⟨p, 0, none⟩ (.int .i64 (vk : Nat))).setCell ⟨p, 1, none⟩ (.string vt)).setCell ⟨p, 2, none⟩ (.slice a2 n2 c2)).setCell ⟨p, 3, none⟩ (.slice a3 n3 c3)).heap[q]? = some (.cells #[.int .i64 0, .int .i64 0] 29 (0, 0)) := by
      rw [Below.heap_setCell _ _ _ _ n6, Below.heap_setCell _ _ _ _ n6, Below.heap_setCell _ _ _ _ n6, Below.heap_setCell _ _ _ _ n6]
      exact Q4.out
    generalize (((w4.setCell ⟨p, 0, none⟩ (.int .i64 (vk : Nat))).setCell ⟨p, 1, none⟩ (.string vt)).setCell ⟨p, 2, none⟩ (.slice a2 n2 c2)).setCell ⟨p, 3, none⟩ (.slice a3 n3 c3) = w5 at *
    have P6 : ((w5.setCell ⟨q, 0, none⟩ (.int .i64 0)).setCell ⟨q, 1, none⟩ (.int .i64 0)).heap[p]? = some (.cells #[.int .i64 (vk : Nat), .string vt, .slice a2 n2 c2, .slice a3 n3 c3] 26 (0, 0)) := by
      rw [Below.heap_setCell _ _ _ _ n5, Below.heap_setCell _ _ _ _ n5]
      exact P5
    have Q6 := jtwo_set Q5 (.int .i64 0) (.int .i64 0)
    have T6 := (T5.setCell (p := ⟨q, 0, none⟩) (fun h => absurd h (by have := HL.out; dsimp only; omega)) (.int .i64 0)).setCell (p := ⟨q, 1, none⟩) (fun h => absurd h (by have := HL.out; dsimp only; omega)) (.int .i64 0)
    generalize (w5.setCell ⟨q, 0, none⟩ (.int .i64 0)).setCell ⟨q, 1, none⟩ (.int .i64 0) = w6 at *
    refine leaves_cons (f := 31) (args := #[.pointer (some ⟨p, 0, none⟩), .pointer (some ⟨q, 0, none⟩)]) (by simp) (by simp [go_sem]) ?_
    refine (catch_idle ⟨p, 0, none⟩ ⟨q, 0, none⟩ w6).mono ?_
    rintro e u' w9 ⟨rfl, rfl, rfl⟩
    exact ⟨_, results_cc rfl _ _ p q 26 29 _ _ (0, 0) (0, 0) _ _ rfl P6 Tryd.underlying26 rfl (by kernel_rfl) rfl Q6 Tryd.underlying29 rfl (by kernel_rfl), rfl, T6⟩
  · have HU := hid (fun e => hend (HE.out.1 e))
    have hB : ((lk s u) != (-1 : Int)) = true := by simpa using hend
    generalize lk s u = x at *
    have KW4 := hid (KW.out w4 H4.out)
    clear KW HE
    go_wp2_with fail
    refine KW4.out.mono ?_
    rintro e w5 ⟨rfl, tt⟩
    have P5 := hid ((tt.block p (lt_of_block P4.out) id).trans P4.out)
    have Q5 := hid ((tt.block q (lt_of_block Q4.out) id).trans Q4.out)
    have T5 := hid (T4.out.trans tt (fun _ _ e => e.elim))
    clear tt KW4 P4 Q4 T4 H4
    go_wp2
    refine leaves_cons (f := 31) (args := #[.pointer (some ⟨p, 0, none⟩), .pointer (some ⟨q, 0, none⟩)]) (by simp) (by simp [go_sem]) ?_
    refine (catch_thrown p q 20 u [] w5 _ _ _ _ _ _ P5.out Q5.out (by have := HL.out; omega)).mono ?_
    rintro e u' w9 ⟨rfl, rfl, P9, Q9, t9⟩
    exact ⟨_, results_cc rfl _ _ p q 26 29 _ _ (0, 0) (0, 0) _ _ rfl P9 Tryd.underlying26 rfl (by kernel_rfl) rfl Q9 Tryd.underlying29 rfl (by kernel_rfl), rfl, T5.out.trans t9 (fun i hi e => by have := HL.out; omega)⟩
end Go.Proofs.YtabhlhgfacpohaaDoor
