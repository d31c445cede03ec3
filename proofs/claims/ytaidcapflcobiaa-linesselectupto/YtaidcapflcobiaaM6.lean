/- Texts of this proof, one behind the other: what each says stands ahead of it. -/
import Derived.Test.YtaidcapflcobiaaM5
/- Spans that rise within a text, and which lines are chosen, plain; no condition. -/
namespace Go.Proofs.Ytaidcapflcobiaa
open Go.RowKit

theorem i64_and_mask (n : Int) (m : Nat) (hm : m ≤ 62) : bits .and .i64 n (2 ^ m - 1) = n % 2 ^ m := by
  have hp : (2 ^ m : Nat) ≤ 2 ^ 62 := Nat.pow_le_pow_right (by decide) hm
  have hp0 : 0 < (2 ^ m : Nat) := Nat.pow_pos (by decide)
  have hc : (2 : Int) ^ m = ((2 ^ m : Nat) : Int) := by simp
  have hd : (2 ^ m : Nat) ∣ 2 ^ 64 := Nat.pow_dvd_pow 2 (by omega)
  rw [hc]
  have h1 : (BitVec.ofInt 64 (((2 ^ m : Nat) : Int) - 1)).toNat = 2 ^ m - 1 := by
    rw [BitVec.toNat_ofInt]
    omega
  have key : (BitVec.ofInt 64 n &&& BitVec.ofInt 64 (((2 ^ m : Nat) : Int) - 1)).toNat = (n % ((2 ^ 64 : Nat) : Int)).toNat % 2 ^ m := by
    rw [BitVec.toNat_and, BitVec.toNat_ofInt, h1, Nat.and_two_pow_sub_one_eq_mod]
  show IntKind.i64.wrap ((BitVec.ofInt 64 n &&& BitVec.ofInt 64 (((2 ^ m : Nat) : Int) - 1)).toNat : Nat) = _
  have hlt : (n % ((2 ^ 64 : Nat) : Int)).toNat % 2 ^ m < 2 ^ m := Nat.mod_lt _ hp0
  have e1 : (((n % ((2 ^ 64 : Nat) : Int)).toNat % 2 ^ m : Nat) : Int) = n % ((2 ^ m : Nat) : Int) := by
    rw [Int.natCast_emod, Int.toNat_of_nonneg (Int.emod_nonneg _ (by decide)), Int.emod_emod_of_dvd _ (by exact_mod_cast hd)]
  rw [key, e1, IntKind.wrap_i64]
  have h2 := Int.emod_nonneg n (b := ((2 ^ m : Nat) : Int)) (by omega)
  have h3 := Int.emod_lt_of_pos n (b := ((2 ^ m : Nat) : Int)) (by omega)
  omega
theorem and255 (n : Int) : bits .and .i64 n 255 = n % 256 := i64_and_mask n 8 (by decide)
theorem and1023 (n : Int) : bits .and .i64 n 1023 = n % 1024 := i64_and_mask n 10 (by decide)

/-- Spans that are told by how far each is behind the last. -/
def spStep (m : Int) (n : Nat) (s : Int × List R2) (x : R2) : Int × List R2 := (min (s.1 + x.1 % m) n, s.2 ++ [(min (s.1 + x.1 % m) (n : Int), min (min (s.1 + x.1 % m) (n : Int) + x.2 % m) (n : Int))])
def spF (m : Int) (n : Nat) (l : List R2) : Int × List R2 := l.foldl (spStep m n) (0, [])
theorem spF_snoc (m : Int) (n : Nat) (l : List R2) (x : R2) : spF m n (l ++ [x]) = spStep m n (spF m n l) x := by simp [spF]
/-- All spans lie within the text. -/
def Within (n : Nat) (fs : List R2) : Prop := ∀ x ∈ fs, 0 ≤ x.1 ∧ x.1 ≤ x.2 ∧ x.2 ≤ n
theorem fold_within (m : Int) (hm : 0 < m) (n : Nat) : ∀ (l : List R2) (s : Int × List R2), 0 ≤ s.1 → s.1 ≤ n → Within n s.2 → 0 ≤ (l.foldl (spStep m n) s).1 ∧ (l.foldl (spStep m n) s).1 ≤ n ∧ Within n (l.foldl (spStep m n) s).2 ∧ (l.foldl (spStep m n) s).2.length = s.2.length + l.length
  | [], s, h0, h1, h2 => ⟨h0, h1, h2, rfl⟩
  | x :: l, s, h0, h1, h2 => by
    have e1 := Int.emod_nonneg x.1 (show m ≠ 0 by omega)
    have e2 := Int.emod_nonneg x.2 (show m ≠ 0 by omega)
    have := fold_within m hm n l (spStep m n s x) (by unfold spStep; dsimp only; omega) (by unfold spStep; dsimp only; omega) (by
      intro y hy
      unfold spStep at hy
      simp only [List.mem_append, List.mem_cons, List.not_mem_nil, or_false] at hy
      rcases hy with hy | rfl
      · exact h2 y hy
      · dsimp only; omega)
    rw [List.foldl_cons]
    refine ⟨this.1, this.2.1, this.2.2.1, ?_⟩
    rw [this.2.2.2]
    unfold spStep
    simp
    omega
theorem spF_within (m : Int) (hm : 0 < m) (n : Nat) (l : List R2) : 0 ≤ (spF m n l).1 ∧ (spF m n l).1 ≤ n ∧ Within n (spF m n l).2 ∧ (spF m n l).2.length = l.length := by
  have := fold_within m hm n l (0, []) (by simp) (by simp) (by intro x hx; simp at hx)
  simpa [spF] using this

theorem cnt_mono (l : List R2) {p q : Int} (h : p ≤ q) : cnt l p ≤ cnt l q := by
  unfold cnt
  refine List.countP_mono_left (fun x _ hx => ?_)
  simp only [decide_eq_true_eq] at hx ⊢
  omega
theorem cnt_one (d : ByteArray) (h : 0 < (lns d).length) {p : Int} (hp : 0 ≤ p) : 1 ≤ cnt (lns d) p := by
  have h0 : ((lns d)[0]).1 = 0 := lns_at d 0 h
  have hm : (lns d)[0] ∈ (lns d) := List.getElem_mem _
  unfold cnt
  refine List.countP_pos_iff.2 ⟨_, hm, ?_⟩
  rw [h0]
  simpa using hp
theorem within_ok (d : ByteArray) (h : 0 < (lns d).length) {x : R2} (hx : 0 ≤ x.1 ∧ x.1 ≤ x.2) : okS (lns d) x = true ∧ 0 ≤ fstL (lns d) x ∧ fstL (lns d) x < (lns d).length := by
  have h1 := cnt_one d h hx.1
  have h2 : x.1 ≤ lastP x := by unfold lastP; split <;> omega
  have h3 := cnt_mono (lns d) h2
  have h4 := cnt_le (lns d) x.1
  have e : okS (lns d) x = true := by
    refine decide_eq_true ?_
    unfold fstL lstL
    omega
  refine ⟨e, ?_, ?_⟩
  · unfold fstL; omega
  · unfold fstL; omega

/-- What begins in no line that is touched. -/
theorem beg_none (l fs : List R2) (i : Nat) (h : hitB l fs i = false) : begF l fs i = [] := by
  unfold begF
  rw [List.map_eq_nil_iff, List.filter_eq_nil_iff]
  rintro ⟨x, k⟩ hx
  have hm : x ∈ fs := by
    have := List.mem_zipIdx hx
    rw [this.2.2]
    exact List.getElem_mem _
  intro hc
  simp only [Bool.and_eq_true, decide_eq_true_eq] at hc
  unfold hitB at h
  rw [List.any_eq_false] at h
  have h2 := h x hm
  have h3 := of_decide_eq_true hc.1
  apply h2
  simp only [Bool.and_eq_true, decide_eq_true_eq]
  exact ⟨hc.1, by omega, by omega⟩

theorem sel_split (l fs : List R2) (inv : Bool) (j : Nat) : ∃ r, sel l fs inv = selU l fs inv j ++ r ∧ (∀ x ∈ r, j ≤ x.1) := by
  refine ⟨((List.finRange l.length).drop j).filter fun i => hitB l fs i.1 != inv, ?_, ?_⟩
  · unfold sel selU
    rw [up_all]
    unfold up
    rw [← List.filter_append, List.take_append_drop]
  · intro x hx
    have hx := (List.mem_filter.1 hx).1
    obtain ⟨i, hi, rfl⟩ := List.getElem_of_mem hx
    rw [List.getElem_drop, List.getElem_finRange]
    simp
theorem sel_hit (l fs : List R2) (inv : Bool) (j : Nat) (hj : j < l.length) (h : (hitB l fs j != inv) = true) : ∃ hl : (selU l fs inv j).length < (sel l fs inv).length, (sel l fs inv)[(selU l fs inv j).length] = ⟨j, hj⟩ := by
  obtain ⟨r, hr, _⟩ := sel_split l fs inv (j + 1)
  rw [selU_step l fs inv hj, if_pos h, List.append_assoc] at hr
  have hl : (selU l fs inv j).length < (sel l fs inv).length := by
    rw [hr]
    simp
  refine ⟨hl, ?_⟩
  have := congrArg (fun s => s[(selU l fs inv j).length]?) hr
  simp only [List.getElem?_eq_getElem hl] at this
  simpa using this
theorem sel_miss (l fs : List R2) (inv : Bool) (j : Nat) (hj : j < l.length) (h : ¬ (hitB l fs j != inv) = true) (hl : (selU l fs inv j).length < (sel l fs inv).length) : j < ((sel l fs inv)[(selU l fs inv j).length]).1 := by
  obtain ⟨r, hr, hge⟩ := sel_split l fs inv (j + 1)
  rw [selU_step l fs inv hj, if_neg h, List.append_nil] at hr
  have hlr : 0 < r.length := by
    have := congrArg List.length hr
    rw [List.length_append] at this
    omega
  have e : (sel l fs inv)[(selU l fs inv j).length] = r[0] := by
    have := congrArg (fun s => s[(selU l fs inv j).length]?) hr
    simp only [List.getElem?_eq_getElem hl] at this
    simpa [hlr] using this
  rw [e]
  exact hge _ (List.getElem_mem _)
theorem selU_len (l fs : List R2) (inv : Bool) (j : Nat) (hj : j ≤ l.length) : (selU l fs inv j).length ≤ j := by
  unfold selU
  refine Nat.le_trans (List.length_filter_le _ _) ?_
  rw [up_len hj]
  exact Nat.le_refl _

/-- How many spans begin in the first lines. -/
def fndU (l fs : List R2) : Nat → Nat
  | 0 => 0
  | j + 1 => fndU l fs j + (begF l fs j).length
theorem fnd_snoc (l fs : List R2) (x : R2) (ho : okS l x = true) : ∀ n : Nat, fndU l (fs ++ [x]) n = fndU l fs n + if 0 ≤ fstL l x ∧ fstL l x < n then 1 else 0
  | 0 => by
    rw [if_neg (by omega)]
    rfl
  | n + 1 => by
    rw [fndU, fnd_snoc l fs x ho n, fndU, begF_snoc]
    rw [List.length_append]
    by_cases h : fstL l x = n
    · have a1 : (if okS l x = true ∧ fstL l x = n then [(fs.length : Int)] else []) = [(fs.length : Int)] := if_pos ⟨ho, h⟩
      rw [a1, if_neg (show ¬ (0 ≤ fstL l x ∧ fstL l x < (n : Nat)) by omega), if_pos (show 0 ≤ fstL l x ∧ fstL l x < ((n + 1 : Nat) : Int) by omega)]
      simp only [List.length_cons, List.length_nil]
      omega
    · have a1 : (if okS l x = true ∧ fstL l x = n then [(fs.length : Int)] else []) = [] := if_neg (fun e => h e.2)
      rw [a1]
      by_cases h2 : 0 ≤ fstL l x ∧ fstL l x < (n : Nat)
      · rw [if_pos h2, if_pos (show 0 ≤ fstL l x ∧ fstL l x < ((n + 1 : Nat) : Int) by omega)]
        simp only [List.length_nil]
        omega
      · rw [if_neg h2, if_neg (show ¬ (0 ≤ fstL l x ∧ fstL l x < ((n + 1 : Nat) : Int)) by omega)]
        simp only [List.length_nil]
        omega
theorem fnd_all (l fs : List R2) (n : Nat) (h : ∀ x ∈ fs, okS l x = true ∧ 0 ≤ fstL l x ∧ fstL l x < n) : ∀ k, k ≤ fs.length → fndU l (fs.take k) n = k
  | 0, _ => by
    have : ∀ m, fndU l [] m = 0 := by
      intro m
      induction m with
      | zero => rfl
      | succ m ih => rw [fndU, ih]; rfl
    exact this n
  | k + 1, hk => by
    have hx := h fs[k] (List.getElem_mem _)
    rw [List.take_succ_eq_append_getElem (by omega), fnd_snoc l _ _ hx.1, fnd_all l fs n h k (by omega), if_pos hx.2]
theorem fnd_bound (l fs : List R2) : ∀ j, fndU l fs j ≤ j * fs.length
  | 0 => Nat.zero_le _
  | j + 1 => by
    have := fnd_bound l fs j
    have h2 := begF_len l fs j
    rw [fndU, Nat.add_mul]
    omega
end Go.Proofs.Ytaidcapflcobiaa

/- The document's lines, plain and in memory; no condition. -/
namespace Go.Proofs.Ytaidcapflcobiaa
open Go.RowKit

def begR (l fs : List R2) (i : Nat) : List Int := (fs.zipIdx.filter fun p => decide (fstL l p.1 = i)).map fun p => (p.2 : Int)
def hitR (l fs : List R2) (i : Nat) : Bool := fs.any fun x => decide (fstL l x ≤ i) && decide ((i : Int) ≤ lstL l x)
theorem begR_snoc (l fs : List R2) (x : R2) (i : Nat) : begR l (fs ++ [x]) i = begR l fs i ++ (if fstL l x = i then [(fs.length : Int)] else []) := by
  unfold begR
  rw [List.zipIdx_append, List.filter_append, List.map_append]
  congr 1
  by_cases h : fstL l x = i
  · rw [if_pos h]
    simp [h]
  · rw [if_neg h]
    simp [h]
theorem hitR_snoc (l fs : List R2) (x : R2) (i : Nat) : hitR l (fs ++ [x]) i = (hitR l fs i || (decide (fstL l x ≤ i) && decide ((i : Int) ≤ lstL l x))) := by
  simp [hitR]
theorem begR_len (l : List R2) (fs : List R2) (i : Nat) : (begR l fs i).length ≤ fs.length := by
  unfold begR
  rw [List.length_map]
  exact Nat.le_trans (List.length_filter_le _ _) (by simp)
theorem hitR_is (l fs : List R2) (h : ∀ x ∈ fs, okS l x = true) (i : Nat) : hitR l fs i = hitB l fs i := by
  unfold hitR hitB
  rw [Bool.eq_iff_iff, List.any_eq_true, List.any_eq_true]
  constructor
  · rintro ⟨x, hx, hp⟩
    exact ⟨x, hx, by rw [h x hx]; simpa using hp⟩
  · rintro ⟨x, hx, hp⟩
    exact ⟨x, hx, by rw [h x hx] at hp; simpa using hp⟩
theorem begR_is (l fs : List R2) (h : ∀ x ∈ fs, okS l x = true) (i : Nat) : begR l fs i = begF l fs i := by
  unfold begR begF
  congr 1
  refine List.filter_congr (fun p hp => ?_)
  have hm : p.1 ∈ fs := by
    obtain ⟨x, k⟩ := p
    have := List.mem_zipIdx hp
    rw [this.2.2]
    exact List.getElem_mem _
  rw [h p.1 hm]
  simp

/-- Those of the first lines that are chosen by a sign. -/
def selP (n : Nat) (h : Nat → Bool) (inv : Bool) (j : Nat) : List (Fin n) := (up n j).filter fun i => h i.1 != inv
theorem selP_step (n : Nat) (h : Nat → Bool) (inv : Bool) {k : Nat} (hk : k < n) : selP n h inv (k + 1) = selP n h inv k ++ if (h k != inv) = true then [⟨k, hk⟩] else [] := by
  unfold selP
  rw [up_succ hk, List.filter_append]
  congr 1
  by_cases hh : (h k != inv) = true
  · rw [if_pos hh, List.filter_cons_of_pos (p := fun i : Fin n => h i.1 != inv) hh]
    rfl
  · rw [if_neg hh, List.filter_cons_of_neg (p := fun i : Fin n => h i.1 != inv) hh]
    rfl
theorem selP_lt {n : Nat} {h : Nat → Bool} {inv : Bool} {j : Nat} (hj : j ≤ n) {i : Fin n} (hi : i ∈ selP n h inv j) : i.1 < j := by
  have := (List.mem_filter.1 hi).1
  obtain ⟨k, hk, rfl⟩ := List.getElem_of_mem this
  rw [up_len hj] at hk
  have e : ((up n j)[k]'(by rw [up_len hj]; exact hk)).1 = k := by
    unfold up
    rw [List.getElem_take, List.getElem_finRange]
    rfl
  rw [e]
  exact hk
theorem selP_len (n : Nat) (h : Nat → Bool) (inv : Bool) (j : Nat) (hj : j ≤ n) : (selP n h inv j).length ≤ j := by
  unfold selP
  refine Nat.le_trans (List.length_filter_le _ _) ?_
  rw [up_len hj]
  exact Nat.le_refl _
theorem selP_is (l fs : List R2) (h : ∀ x ∈ fs, okS l x = true) (inv : Bool) : selP l.length (hitR l fs) inv l.length = sel l fs inv := by
  unfold selP sel selU
  congr 1
  funext i
  rw [hitR_is l fs h]

/-- A list of numbers that lies there, in a block of its own. -/
def Fnd (w : World) (v : Value) (e : List Int) : Prop := ∃ a c, v = .slice a e.length c ∧ (e = [] ∨ ∃ b cs, a = some ⟨b, 0, none⟩ ∧ w.heap[b]? = some (.cells cs 3 (0, 0)) ∧ ∀ i (h : i < e.length), cs[i]? = some (.int .i64 e[i]))
theorem Fnd.kept {w w' : World} {v : Value} {e : List Int} (h : Fnd w v e) (k : ∀ (b : Nat) (cs : Array Value), w.heap[b]? = some (Obj.cells cs 3 (0, 0)) → w'.heap[b]? = w.heap[b]?) : Fnd w' v e := by
  obtain ⟨a, c, hv, hr⟩ := h
  refine ⟨a, c, hv, ?_⟩
  rcases hr with h | ⟨b, cs, ha, hb, hc⟩
  · exact .inl h
  · exact .inr ⟨b, cs, ha, (k b cs hb).trans hb, hc⟩
theorem Fnd.ig {w : World} {v : Value} {e : List Int} (h : Fnd w v e) : ∃ a c, v = .slice a e.length c ∧ IgO w a e := by
  obtain ⟨a, c, hv, hr⟩ := h
  refine ⟨a, c, hv, fun i hi => ?_⟩
  rcases hr with h | ⟨b, cs, ha, hb, hc⟩
  · rw [h] at hi; simp at hi
  · refine ⟨b, ha, lt_of_block hb, ?_⟩
    unfold World.cell?
    rw [hb]
    exact hc i hi
theorem Fnd.one {w : World} {v : Value} {e : List Int} (h : Fnd w v e) : v.oneCell' = true := by
  obtain ⟨a, c, rfl, _⟩ := h
  rfl
theorem fnd_own {w : World} {v : Value} {e : List Int} (h : w.ownsRow 0 3 1 v e.length (encI e)) : Fnd w v e := by
  rcases h.2 with ⟨rfl, h0⟩ | ⟨g, cap, cur, rfl, hg, hh, rest⟩
  · exact ⟨none, 0, by rw [h0], .inl (List.eq_nil_of_length_eq_zero h0)⟩
  · refine ⟨_, cap, rfl, .inr ⟨g, cur, rfl, hh, fun i hi => ?_⟩⟩
    have := h.cells (g := g) rfl i (.int .i64 e[i]) (by simp [encI, hi])
    rw [add_g] at this
    unfold World.cell? at this
    rw [hh] at this
    exact this
theorem fnd_nil (w : World) : Fnd w (.slice none 0 0) [] := ⟨none, 0, rfl, .inl rfl⟩
theorem own_lg2 {w : World} {base : Nat} {ty : TypeId} {v : Value} {l : List R2} {vs : Nat → Value} {B : Nat → List Int} {s : List (Fin l.length)} (h : w.ownsRow base ty 4 v s.length (flatLn l vs s)) (hf : ∀ i ∈ s, Fnd w (vs i.1) (B i.1)) : ∃ a c, v = .slice a s.length c ∧ Lg w a l B s := by
  rcases h.2 with ⟨rfl, h0⟩ | ⟨g, cap, cur, rfl, hg, hh, rest⟩
  · exact ⟨none, 0, by rw [h0], fun j hj => by omega⟩
  · refine ⟨_, cap, rfl, fun j hj => ?_⟩
    obtain ⟨ak, ck, hv, hig⟩ := (hf s[j] (List.getElem_mem _)).ig
    have c0 := h.cells (g := g) rfl (j * 4 + 0) _ (flat_get l vs s j 0 hj (by omega))
    have c1 := h.cells (g := g) rfl (j * 4 + 1) _ (flat_get l vs s j 1 hj (by omega))
    have c2 := h.cells (g := g) rfl (j * 4 + 2) _ (flat_get l vs s j 2 hj (by omega))
    have c3 := h.cells (g := g) rfl (j * 4 + 3) _ (flat_get l vs s j 3 hj (by omega))
    rw [add_g] at c0 c1 c2 c3
    rw [Nat.add_zero] at c0
    rw [hv] at c3
    exact ⟨g, ak, ck, rfl, lt_of_block hh, c0, c1, c2, c3, hig⟩

/-- A line that is being told, and what begins in it so far. -/
structure RX (W0 w : World) (q : Nat) (n y z : Int) (v : Value) (e : List Int) : Prop where
  blk : w.heap[q]? = some (.cells #[.int .i64 n, .int .i64 y, .int .i64 z, v] 56 (0, 0))
  own : w.ownsRow 0 3 1 v e.length (encI e)
  new : W0.heap.size ≤ q ∧ ∀ g, v.ownBlock = some g → W0.heap.size ≤ g
  touch : Touch (fun _ => False) W0 w
theorem RX.ne {W0 w : World} {q : Nat} {n y z : Int} {v : Value} {e : List Int} (h : RX W0 w q n y z v e) : v.ownBlock ≠ some q := by
  intro e
  obtain ⟨cs, hc⟩ := own_blk h.own e
  exact ne_type hc h.blk (by decide) rfl
theorem RX.app {W0 w wa w1 : World} {q : Nat} {n y z k : Int} {v v' : Value} {e : List Int} (h : RX W0 w q n y z v e) (ta : Touch (fun _ => False) w wa) (hown : w1.ownsRow 0 3 1 v' (e.length + 1) (encI e ++ [.int .i64 k])) (hg : wa.grownBy w1 v.ownBlock) (hat : v'.ownBlock = v.ownBlock ∨ ∃ g, v'.ownBlock = some g ∧ w.heap.size ≤ g) :
    w1.heap[q]? = some (.cells #[.int .i64 n, .int .i64 y, .int .i64 z, v] 56 (0, 0)) ∧ RX W0 (w1.setCell ⟨q, 3, none⟩ v') q n y z v' (e ++ [k]) := by
  have kq : w1.heap[q]? = some (.cells #[.int .i64 n, .int .i64 y, .int .i64 z, v] 56 (0, 0)) := (hg.block q (Nat.lt_of_lt_of_le (lt_of_block h.blk) ta.size) (fun e => h.ne e.symm)).trans ((ta.block q (lt_of_block h.blk) id).trans h.blk)
  refine ⟨kq, block_set kq 3 v', ?_, ⟨h.new.1, fun g hg' => ?_⟩, Touch.setCell ((h.touch.trans ta (fun _ _ e => e)).grown hg (fun j e hj => ?_)) (p := ⟨q, 3, none⟩) (fun hp => absurd hp (Nat.not_lt.2 h.new.1)) _⟩
  · rw [List.length_append, encI, List.map_append]
    refine own_keep hown (fun g hg' => ?_)
    obtain ⟨cs, hc⟩ := own_blk hown hg'
    exact Below.heap_setCell _ _ _ _ (ne_type hc kq (by decide))
  · rcases hat with e | ⟨g', e, hl⟩
    · exact h.new.2 g (by rw [← e]; exact hg')
    · rw [e] at hg'
      cases hg'
      have := h.touch.size
      omega
  · have := h.new.2 j e
    omega
theorem four_new {w : World} (x y z u : Value) (t : TypeId) : (w.alloc (.cells #[x, y, z, u] t)).heap[w.heap.size]? = some (.cells #[x, y, z, u] t (0, 0)) := by
  show (w.heap.push _)[_]? = _
  simp
theorem cell_four3 {w : World} {b : Nat} {x y z u : Value} {t : TypeId} (h : w.heap[b]? = some (.cells #[x, y, z, u] t (0, 0))) : w.cell? ⟨b, 3, none⟩ = some u := by simp [World.cell?, h]
theorem cell_four {w : World} {b : Nat} {x y z u : Value} {t : TypeId} (h : w.heap[b]? = some (.cells #[x, y, z, u] t (0, 0))) : w.cell? ⟨b, 0, none⟩ = some x ∧ w.cell? ⟨b, 1, none⟩ = some y ∧ w.cell? ⟨b, 2, none⟩ = some z ∧ w.cell? ⟨b, 3, none⟩ = some u := by simp [World.cell?, h]
theorem free_four {w : World} {b i : Nat} {x y z u : Value} {t : TypeId} (h : w.heap[b]? = some (.cells #[x, y, z, u] t (0, 0))) : w.frozen? ⟨b, i, none⟩ = false := by simp [World.frozen?, h]
theorem RX.still {W0 w w' : World} {q : Nat} {n y z : Int} {v : Value} {e : List Int} (h : RX W0 w q n y z v e) (t : Touch (fun _ => False) w w') : RX W0 w' q n y z v e :=
  ⟨(t.block _ (lt_of_block h.blk) id).trans h.blk, own_keepT h.own t, h.new, h.touch.trans t (fun _ _ e => e)⟩
theorem RX.start (w : World) (n y z : Int) : RX w (w.alloc (.cells #[.int .i64 n, .int .i64 y, .int .i64 z, .slice none 0 0] 56)) w.heap.size n y z (.slice none 0 0) [] :=
  ⟨four_new _ _ _ _ _, World.ownsRow_nil _ _ _ _, ⟨Nat.le_refl _, fun g hg => by simp [Value.ownBlock] at hg⟩, (Touch.refl _ w).alloc _⟩
theorem flat_upd (l : List R2) (vs : Nat → Value) (j : Nat) (x : Value) : ∀ (s : List (Fin l.length)), (∀ i ∈ s, i.1 < j) → flatLn l (upd vs j x) s = flatLn l vs s
  | [], _ => rfl
  | i :: s, h => by
    have ih := flat_upd l vs j x s (fun k hk => h k (by simp [hk]))
    have hi := h i (by simp)
    have e : encLn l (upd vs j x) i = encLn l vs i := by
      unfold encLn upd
      rw [if_neg (by omega)]
    show encLn l (upd vs j x) i ++ flatLn l (upd vs j x) s = encLn l vs i ++ flatLn l vs s
    rw [e, ih]
end Go.Proofs.Ytaidcapflcobiaa
