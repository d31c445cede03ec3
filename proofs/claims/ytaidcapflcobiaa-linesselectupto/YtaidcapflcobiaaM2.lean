/- Texts of this proof, one behind the other: what each says stands ahead of it. -/
import Derived.Test.YtaidcapflcobiaaM1
/- What spans touch, plain, and how it lies in memory; no condition. -/
namespace Go.Proofs.Ytaidcapflcobiaa
open Go.RowKit

/-- The line in which a span begins, and the last that it touches. -/
def fstL (l : List R2) (x : R2) : Int := (cnt l x.1 : Nat) - 1
def lstL (l : List R2) (x : R2) : Int := (cnt l (lastP x) : Nat) - 1
def okS (l : List R2) (x : R2) : Bool := decide (0 ≤ fstL l x ∧ fstL l x ≤ lstL l x)
def dl (l : List R2) (x : R2) (i : Nat) : Int := if okS l x = true then (if fstL l x = i then 1 else 0) - (if lstL l x + 1 = i then 1 else 0) else 0
def chgF (l : List R2) (fs : List R2) (i : Nat) : Int := (fs.map fun x => dl l x i).sum
def begF (l : List R2) (fs : List R2) (i : Nat) : List Int := (fs.zipIdx.filter fun p => okS l p.1 && decide (fstL l p.1 = i)).map fun p => (p.2 : Int)
theorem chgF_snoc (l fs : List R2) (x : R2) (i : Nat) : chgF l (fs ++ [x]) i = chgF l fs i + dl l x i := by simp [chgF]
theorem begF_snoc (l fs : List R2) (x : R2) (i : Nat) : begF l (fs ++ [x]) i = begF l fs i ++ (if okS l x = true ∧ fstL l x = i then [(fs.length : Int)] else []) := by
  unfold begF
  rw [List.zipIdx_append, List.filter_append, List.map_append]
  congr 1
  by_cases h : okS l x = true ∧ fstL l x = i
  · rw [if_pos h]
    simp [h.1, h.2]
  · rw [if_neg h]
    by_cases h1 : okS l x = true
    · have h2 : ¬ fstL l x = i := fun e => h ⟨h1, e⟩
      simp [h2]
    · simp [h1]
theorem dl_bound (l : List R2) (x : R2) (i : Nat) : -1 ≤ dl l x i ∧ dl l x i ≤ 1 := by
  unfold dl
  split <;> (try split) <;> (try split) <;> omega
theorem chgF_bound (l : List R2) (i : Nat) : ∀ fs : List R2, -(fs.length : Int) ≤ chgF l fs i ∧ chgF l fs i ≤ fs.length
  | [] => by simp [chgF]
  | x :: fs => by
    have ih := chgF_bound l i fs
    have hd := dl_bound l x i
    have e : chgF l (x :: fs) i = dl l x i + chgF l fs i := by simp [chgF]
    rw [e, List.length_cons]
    omega
theorem begF_len (l : List R2) (fs : List R2) (i : Nat) : (begF l fs i).length ≤ fs.length := by
  unfold begF
  rw [List.length_map]
  exact Nat.le_trans (List.length_filter_le _ _) (by simp)

def encI (e : List Int) : List Value := e.map (Value.int .i64)
def upd {α : Type} (f : Nat → α) (i : Nat) (x : α) (j : Nat) : α := if j = i then x else f j

/-- The lists that lay makes, in memory. -/
structure Ly (W0 w : World) (tb bg ch n : Nat) (vs : Nat → Value) (B : Nat → List Int) (C : Nat → Int) : Prop where
  tbk : w.heap[tb]? = some (.cells #[.slice (some ⟨bg, 0, none⟩) n n, .slice (some ⟨ch, 0, none⟩) (n + 1) (n + 1)] 53 (0, 0))
  bgk : ∃ cs : Array Value, cs.size = n ∧ w.heap[bg]? = some (.cells cs 39 (0, 0)) ∧ ∀ i, i < n → cs[i]? = some (vs i)
  chk : ∃ cs : Array Value, cs.size = n + 1 ∧ w.heap[ch]? = some (.cells cs 3 (0, 0)) ∧ ∀ i, i < n + 1 → cs[i]? = some (.int .i64 (C i))
  own : ∀ i, i < n → w.ownsRow 0 3 1 (vs i) (B i).length (encI (B i))
  new : ∀ i, i < n → ∀ g, (vs i).ownBlock = some g → W0.heap.size ≤ g ∧ g ≠ ch
  dis : ∀ i j, i < n → j < n → i ≠ j → ∀ g, (vs i).ownBlock = some g → (vs j).ownBlock ≠ some g
  n0 : W0.heap.size ≤ tb ∧ W0.heap.size ≤ bg ∧ W0.heap.size ≤ ch
  touch : Touch (fun _ => False) W0 w

theorem own_blk {w : World} {base n : Nat} {e : TypeId} {sz : Nat} {v : Value} {xs : List Value} (h : w.ownsRow base e sz v n xs) {g : Nat} (hg : v.ownBlock = some g) : ∃ cs, w.heap[g]? = some (.cells cs e (0, 0)) := by
  rcases h.2 with ⟨rfl, _⟩ | ⟨g', cap, cur, rfl, _, hh, _⟩
  · simp [Value.ownBlock] at hg
  · obtain rfl : g' = g := by simpa [Value.ownBlock] using hg
    exact ⟨cur, hh⟩
theorem own_keep {w w' : World} {base n : Nat} {e : TypeId} {sz : Nat} {v : Value} {xs : List Value} (h : w.ownsRow base e sz v n xs) (hk : ∀ g, v.ownBlock = some g → w'.heap[g]? = w.heap[g]?) : w'.ownsRow base e sz v n xs := by
  refine ⟨h.1, ?_⟩
  rcases h.2 with h0 | ⟨g, cap, cur, hv, hg, hh, rest⟩
  · exact .inl h0
  · exact .inr ⟨g, cap, cur, hv, hg, (hk g (by rw [hv]; rfl)).trans hh, rest⟩

theorem Ly.lt {W0 w : World} {tb bg ch n : Nat} {vs : Nat → Value} {B : Nat → List Int} {C : Nat → Int} (h : Ly W0 w tb bg ch n vs B C) : tb < w.heap.size ∧ bg < w.heap.size ∧ ch < w.heap.size := by
  obtain ⟨c1, _, h1, _⟩ := h.bgk
  obtain ⟨c2, _, h2, _⟩ := h.chk
  exact ⟨lt_of_block h.tbk, lt_of_block h1, lt_of_block h2⟩
theorem Ly.ne {W0 w : World} {tb bg ch n : Nat} {vs : Nat → Value} {B : Nat → List Int} {C : Nat → Int} (h : Ly W0 w tb bg ch n vs B C) : tb ≠ bg ∧ tb ≠ ch ∧ bg ≠ ch ∧ ∀ i, i < n → ∀ g, (vs i).ownBlock = some g → g ≠ tb ∧ g ≠ bg ∧ g ≠ ch ∧ g < w.heap.size := by
  obtain ⟨c1, _, h1, _⟩ := h.bgk
  obtain ⟨c2, _, h2, _⟩ := h.chk
  have h0 := h.tbk
  refine ⟨?_, ?_, ?_, fun i hi g hg => ?_⟩
  · rintro rfl; rw [h0] at h1; cases h1
  · rintro rfl; rw [h0] at h2; cases h2
  · rintro rfl; rw [h1] at h2; cases h2
  · obtain ⟨cs, hc⟩ := own_blk (h.own i hi) hg
    refine ⟨?_, ?_, (h.new i hi g hg).2, lt_of_block hc⟩
    · rintro rfl; rw [h0] at hc; cases hc
    · rintro rfl; rw [h1] at hc; cases hc
theorem Ly.still {W0 w w' : World} {tb bg ch n : Nat} {vs : Nat → Value} {B : Nat → List Int} {C : Nat → Int} (h : Ly W0 w tb bg ch n vs B C) (t : Touch (fun _ => False) w w') : Ly W0 w' tb bg ch n vs B C := by
  obtain ⟨l1, l2, l3⟩ := h.lt
  obtain ⟨c1, s1, h1, k1⟩ := h.bgk
  obtain ⟨c2, s2, h2, k2⟩ := h.chk
  exact ⟨(t.block _ l1 id).trans h.tbk, ⟨c1, s1, (t.block _ l2 id).trans h1, k1⟩, ⟨c2, s2, (t.block _ l3 id).trans h2, k2⟩, fun i hi => own_keep (h.own i hi) (fun g hg => t.block g (h.ne.2.2.2 i hi g hg).2.2.2 id), h.new, h.dis, h.n0, h.touch.trans t (fun _ _ e => e)⟩
theorem Ly.cells {W0 w : World} {tb bg ch n : Nat} {vs : Nat → Value} {B : Nat → List Int} {C : Nat → Int} (h : Ly W0 w tb bg ch n vs B C) :
    w.cell? ⟨tb, 0, none⟩ = some (.slice (some ⟨bg, 0, none⟩) n n) ∧ w.cell? ⟨tb, 1, none⟩ = some (.slice (some ⟨ch, 0, none⟩) (n + 1) (n + 1)) ∧ (∀ i, i < n → w.cell? ⟨bg, i, none⟩ = some (vs i)) ∧ (∀ i, i < n + 1 → w.cell? ⟨ch, i, none⟩ = some (.int .i64 (C i))) ∧ (∀ i, w.frozen? ⟨bg, i, none⟩ = false) ∧ (∀ i, w.frozen? ⟨ch, i, none⟩ = false) := by
  obtain ⟨c1, s1, h1, k1⟩ := h.bgk
  obtain ⟨c2, s2, h2, k2⟩ := h.chk
  refine ⟨cell_two0 h.tbk, cell_two1 h.tbk, fun i hi => ?_, fun i hi => ?_, fun i => ?_, fun i => ?_⟩
  · unfold World.cell?; rw [h1]; exact k1 i hi
  · unfold World.cell?; rw [h2]; exact k2 i hi
  · simp [World.frozen?, h1]
  · simp [World.frozen?, h2]

theorem set_at {cs : Array Value} {n i : Nat} (hs : cs.size = n) (hi : i < n) {f : Nat → Value} (hc : ∀ j, j < n → cs[j]? = some (f j)) (x : Value) : ∀ j, j < n → (cs.set! i x)[j]? = some (upd f i x j) := by
  intro j hj
  unfold upd
  rw [Array.set!_eq_setIfInBounds, Array.getElem?_setIfInBounds]
  by_cases h : i = j
  · subst h; simp [hs, hi]
  · rw [if_neg h, if_neg (fun e => h e.symm)]
    exact hc j hj

/-- One more number in a line's list. -/
theorem Ly.app {W0 w wa w1 : World} {tb bg ch n i : Nat} {vs : Nat → Value} {B : Nat → List Int} {C : Nat → Int} {v' : Value} {k : Int} (h : Ly W0 w tb bg ch n vs B C) (hi : i < n) (ta : Touch (fun _ => False) w wa)
    (hown : w1.ownsRow 0 3 1 v' ((B i).length + 1) (encI (B i) ++ [.int .i64 k])) (hg : wa.grownBy w1 (vs i).ownBlock) (hat : v'.ownBlock = (vs i).ownBlock ∨ ∃ g, v'.ownBlock = some g ∧ w.heap.size ≤ g) :
    Ly W0 (w1.setCell ⟨bg, i, none⟩ v') tb bg ch n (upd vs i v') (upd B i (B i ++ [k])) C := by
  obtain ⟨n1, n2, n3, n4⟩ := h.ne
  obtain ⟨l1, l2, l3⟩ := h.lt
  have keep : ∀ b, b < w.heap.size → (vs i).ownBlock ≠ some b → w1.heap[b]? = w.heap[b]? := fun b hb hne =>
    (hg.block b (Nat.lt_of_lt_of_le hb ta.size) (fun e => hne e.symm)).trans (ta.block b hb id)
  have ktb : w1.heap[tb]? = w.heap[tb]? := keep tb l1 (fun e => (n4 i hi tb e).1 rfl)
  have kbg : w1.heap[bg]? = w.heap[bg]? := keep bg l2 (fun e => (n4 i hi bg e).2.1 rfl)
  have kch : w1.heap[ch]? = w.heap[ch]? := keep ch l3 (fun e => (n4 i hi ch e).2.2.1 rfl)
  obtain ⟨c1, s1, h1, k1⟩ := h.bgk
  obtain ⟨c2, s2, h2, k2⟩ := h.chk
  have vn : ∀ g, v'.ownBlock = some g → g ≠ bg := by
    intro g hg'
    rcases hat with e | ⟨g', e, hl⟩
    · rw [e] at hg'; exact (n4 i hi g hg').2.1
    · rw [e] at hg'; cases hg'; omega
  refine ⟨?_, ⟨c1.set! i v', by simp [s1], block_set (kbg.trans h1) i v', set_at s1 hi k1 v'⟩, ⟨c2, s2, ?_, k2⟩, fun j hj => ?_, fun j hj g hgj => ?_, fun a b ha hb hab g hga => ?_, h.n0, ?_⟩
  · rw [Below.heap_setCell _ _ _ _ n1, ktb]; exact h.tbk
  · rw [Below.heap_setCell _ _ _ _ (Ne.symm n3), kch]; exact h2
  · unfold upd
    by_cases e : j = i
    · subst e
      rw [if_pos rfl, if_pos rfl, List.length_append, encI, List.map_append]
      refine own_keep hown (fun g hg' => Below.heap_setCell _ _ _ _ (vn g hg'))
    · rw [if_neg e, if_neg e]
      refine own_keep (h.own j hj) (fun g hg' => ?_)
      rw [Below.heap_setCell _ _ _ _ (n4 j hj g hg').2.1]
      exact keep g (n4 j hj g hg').2.2.2 (fun e' => h.dis j i hj hi e g hg' e')
  · unfold upd at hgj
    by_cases e : j = i
    · rw [if_pos e] at hgj
      rcases hat with e' | ⟨g', e', hl⟩
      · rw [e'] at hgj; exact h.new i hi g hgj
      · rw [e'] at hgj; cases hgj
        have := h.touch.size
        exact ⟨by omega, by omega⟩
    · rw [if_neg e] at hgj; exact h.new j hj g hgj
  · unfold upd at hga ⊢
    by_cases ea : a = i
    · rw [if_pos ea] at hga
      rw [if_neg (fun e => hab (ea.trans e.symm))]
      intro hgb
      rcases hat with e' | ⟨g', e', hl⟩
      · rw [e'] at hga; exact h.dis i b hi hb (fun e => hab (ea.trans e)) g hga hgb
      · rw [e'] at hga; cases hga
        have := (n4 b hb _ hgb).2.2.2
        omega
    · rw [if_neg ea] at hga
      by_cases eb : b = i
      · rw [if_pos eb]
        intro hgb
        rcases hat with e' | ⟨g', e', hl⟩
        · rw [e'] at hgb; exact h.dis a i ha hi ea g hga hgb
        · rw [e'] at hgb; cases hgb
          have := (n4 a ha _ hga).2.2.2
          omega
      · rw [if_neg eb]; exact h.dis a b ha hb hab g hga
  · refine Touch.setCell ((h.touch.trans ta (fun _ _ e => e)).grown hg (fun q e hq => ?_)) (p := ⟨bg, i, none⟩) (fun hp => ?_) v'
    · have := (h.new i hi q e).1; omega
    · have := h.n0.2.1
      exact absurd hp (Nat.not_lt.2 this)
/-- Another number in the list of changes. -/
theorem Ly.put {W0 w : World} {tb bg ch n i : Nat} {vs : Nat → Value} {B : Nat → List Int} {C : Nat → Int} (h : Ly W0 w tb bg ch n vs B C) (hi : i < n + 1) (x : Int) : Ly W0 (w.setCell ⟨ch, i, none⟩ (.int .i64 x)) tb bg ch n vs B (upd C i x) := by
  obtain ⟨n1, n2, n3, n4⟩ := h.ne
  obtain ⟨c1, s1, h1, k1⟩ := h.bgk
  obtain ⟨c2, s2, h2, k2⟩ := h.chk
  refine ⟨?_, ⟨c1, s1, ?_, k1⟩, ⟨c2.set! i (.int .i64 x), by simp [s2], block_set h2 i _, fun j hj => ?_⟩, fun j hj => own_keep (h.own j hj) (fun g hg => Below.heap_setCell _ _ _ _ (n4 j hj g hg).2.2.1), h.new, h.dis, h.n0, h.touch.setCell (p := ⟨ch, i, none⟩) (fun hp => absurd hp (Nat.not_lt.2 h.n0.2.2)) _⟩
  · rw [Below.heap_setCell _ _ _ _ n2]; exact h.tbk
  · rw [Below.heap_setCell _ _ _ _ n3]; exact h1
  · rw [set_at (f := fun j => .int .i64 (C j)) s2 hi k2 (.int .i64 x) j hj]
    unfold upd
    split <;> rfl
end Go.Proofs.Ytaidcapflcobiaa
