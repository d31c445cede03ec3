/- Texts of this proof, one behind the other: what each says stands ahead of it. -/
import Derived.Test.YtaidcapflcobiaaM5
import Derived.Deep.CutBlock
/- Spans that rise within a text, and which lines are chosen, plain; no condition. -/
namespace Go.Proofs.Ytaidcapflcobiaa
open Go.RowKit

theorem i64_and_mask (n : Int) (m : Nat) (hm : m ≤ 62) : bits .and .i64 n (2 ^ m - 1) = n % 2 ^ m := by
  have hp : (2 ^ m : Nat) ≤ 2 ^ 62 := Nat.pow_le_pow_right (by decide) hm
  have hp0 : 0 < (2 ^ m : Nat) := Nat.pow_pos (by decide)
  have hc : (2 : Int) ^ m = ((2 ^ m : Nat) : Int) := by simp
  have hd : (2 ^ m : Nat) ∣ 2 ^ 64 := Nat.pow_dvd_pow 2 (by omega)
  rw [hc]
  have h1 : (BitVec.ofInt 64 (((2 ^ m : Nat) : Int) - 1)).toNat = 2 ^ m - 1 := by
    rw [BitVec.toNat_ofInt]
    omega
  have key : (BitVec.ofInt 64 n &&& BitVec.ofInt 64 (((2 ^ m : Nat) : Int) - 1)).toNat = (n % ((2 ^ 64 : Nat) : Int)).toNat % 2 ^ m := by
    rw [BitVec.toNat_and, BitVec.toNat_ofInt, h1, Nat.and_two_pow_sub_one_eq_mod]
  show IntKind.i64.wrap ((BitVec.ofInt 64 n &&& BitVec.ofInt 64 (((2 ^ m : Nat) : Int) - 1)).toNat : Nat) = _
  have hlt : (n % ((2 ^ 64 : Nat) : Int)).toNat % 2 ^ m < 2 ^ m := Nat.mod_lt _ hp0
  have e1 : (((n % ((2 ^ 64 : Nat) : Int)).toNat % 2 ^ m : Nat) : Int) = n % ((2 ^ m : Nat) : Int) := by
    rw [Int.natCast_emod, Int.toNat_of_nonneg (Int.emod_nonneg _ (by decide)), Int.emod_emod_of_dvd _ (by exact_mod_cast hd)]
  rw [key, e1, IntKind.wrap_i64]
  have h2 := Int.emod_nonneg n (b := ((2 ^ m : Nat) : Int)) (by omega)
  have h3 := Int.emod_lt_of_pos n (b := ((2 ^ m : Nat) : Int)) (by omega)
  omega
theorem and255 (n : Int) : bits .and .i64 n 255 = n % 256 := i64_and_mask n 8 (by decide)
theorem and1023 (n : Int) : bits .and .i64 n 1023 = n % 1024 := i64_and_mask n 10 (by decide)

/-- Spans that are told by how far each is behind the last. -/
def spStep (m : Int) (n : Nat) (s : Int × List R2) (x : R2) : Int × List R2 := (min (s.1 + x.1 % m) n, s.2 ++ [(min (s.1 + x.1 % m) (n : Int), min (min (s.1 + x.1 % m) (n : Int) + x.2 % m) (n : Int))])
def spF (m : Int) (n : Nat) (l : List R2) : Int × List R2 := l.foldl (spStep m n) (0, [])
theorem spF_snoc (m : Int) (n : Nat) (l : List R2) (x : R2) : spF m n (l ++ [x]) = spStep m n (spF m n l) x := by simp [spF]
/-- All spans lie within the text. -/
def Within (n : Nat) (fs : List R2) : Prop := ∀ x ∈ fs, 0 ≤ x.1 ∧ x.1 ≤ x.2 ∧ x.2 ≤ n
theorem fold_within (m : Int) (hm : 0 < m) (n : Nat) : ∀ (l : List R2) (s : Int × List R2), 0 ≤ s.1 → s.1 ≤ n → Within n s.2 → 0 ≤ (l.foldl (spStep m n) s).1 ∧ (l.foldl (spStep m n) s).1 ≤ n ∧ Within n (l.foldl (spStep m n) s).2 ∧ (l.foldl (spStep m n) s).2.length = s.2.length + l.length
  | [], s, h0, h1, h2 => ⟨h0, h1, h2, rfl⟩
  | x :: l, s, h0, h1, h2 => by
    have e1 := Int.emod_nonneg x.1 (show m ≠ 0 by omega)
    have e2 := Int.emod_nonneg x.2 (show m ≠ 0 by omega)
    have := fold_within m hm n l (spStep m n s x) (by unfold spStep; dsimp only; omega) (by unfold spStep; dsimp only; omega) (by
      intro y hy
      unfold spStep at hy
      simp only [List.mem_append, List.mem_cons, List.not_mem_nil, or_false] at hy
      rcases hy with hy | rfl
      · exact h2 y hy
      · dsimp only; omega)
    rw [List.foldl_cons]
    refine ⟨this.1, this.2.1, this.2.2.1, ?_⟩
    rw [this.2.2.2]
    unfold spStep
    simp
    omega
theorem spF_within (m : Int) (hm : 0 < m) (n : Nat) (l : List R2) : 0 ≤ (spF m n l).1 ∧ (spF m n l).1 ≤ n ∧ Within n (spF m n l).2 ∧ (spF m n l).2.length = l.length := by
  have := fold_within m hm n l (0, []) (by simp) (by simp) (by intro x hx; simp at hx)
  simpa [spF] using this

theorem cnt_mono (l : List R2) {p q : Int} (h : p ≤ q) : cnt l p ≤ cnt l q := by
  unfold cnt
  refine List.countP_mono_left (fun x _ hx => ?_)
  simp only [decide_eq_true_eq] at hx ⊢
  omega
theorem cnt_one (d : ByteArray) (h : 0 < (lns d).length) {p : Int} (hp : 0 ≤ p) : 1 ≤ cnt (lns d) p := by
  have h0 : ((lns d)[0]).1 = 0 := lns_at d 0 h
  have hm : (lns d)[0] ∈ (lns d) := List.getElem_mem _
  unfold cnt
  refine List.countP_pos_iff.2 ⟨_, hm, ?_⟩
  rw [h0]
  simpa using hp
theorem within_ok (d : ByteArray) (h : 0 < (lns d).length) {x : R2} (hx : 0 ≤ x.1 ∧ x.1 ≤ x.2) : okS (lns d) x = true ∧ 0 ≤ fstL (lns d) x ∧ fstL (lns d) x < (lns d).length := by
  have h1 := cnt_one d h hx.1
  have h2 : x.1 ≤ lastP x := by unfold lastP; split <;> omega
  have h3 := cnt_mono (lns d) h2
  have h4 := cnt_le (lns d) x.1
  have e : okS (lns d) x = true := by
    refine decide_eq_true ?_
    unfold fstL lstL
    omega
  refine ⟨e, ?_, ?_⟩
  · unfold fstL; omega
  · unfold fstL; omega

/-- What begins in no line that is touched. -/
theorem beg_none (l fs : List R2) (i : Nat) (h : hitB l fs i = false) : begF l fs i = [] := by
  unfold begF
  rw [List.map_eq_nil_iff, List.filter_eq_nil_iff]
  rintro ⟨x, k⟩ hx
  have hm : x ∈ fs := by
    have := List.mem_zipIdx hx
    rw [this.2.2]
    exact List.getElem_mem _
  intro hc
  simp only [Bool.and_eq_true, decide_eq_true_eq] at hc
  unfold hitB at h
  rw [List.any_eq_false] at h
  have h2 := h x hm
  have h3 := of_decide_eq_true hc.1
  apply h2
  simp only [Bool.and_eq_true, decide_eq_true_eq]
  exact ⟨hc.1, by omega, by omega⟩

theorem sel_split (l fs : List R2) (inv : Bool) (j : Nat) : ∃ r, sel l fs inv = selU l fs inv j ++ r ∧ (∀ x ∈ r, j ≤ x.1) := by
  refine ⟨((List.finRange l.length).drop j).filter fun i => hitB l fs i.1 != inv, ?_, ?_⟩
  · unfold sel selU
    rw [up_all]
    unfold up
    rw [← List.filter_append, List.take_append_drop]
  · intro x hx
    have hx := (List.mem_filter.1 hx).1
    obtain ⟨i, hi, rfl⟩ := List.getElem_of_mem hx
    rw [List.getElem_drop, List.getElem_finRange]
    simp
theorem sel_hit (l fs : List R2) (inv : Bool) (j : Nat) (hj : j < l.length) (h : (hitB l fs j != inv) = true) : ∃ hl : (selU l fs inv j).length < (sel l fs inv).length, (sel l fs inv)[(selU l fs inv j).length] = ⟨j, hj⟩ := by
  obtain ⟨r, hr, _⟩ := sel_split l fs inv (j + 1)
  rw [selU_step l fs inv hj, if_pos h, List.append_assoc] at hr
  have hl : (selU l fs inv j).length < (sel l fs inv).length := by
    rw [hr]
    simp
  refine ⟨hl, ?_⟩
  have := congrArg (fun s => s[(selU l fs inv j).length]?) hr
  simp only [List.getElem?_eq_getElem hl] at this
  simpa using this
theorem sel_miss (l fs : List R2) (inv : Bool) (j : Nat) (hj : j < l.length) (h : ¬ (hitB l fs j != inv) = true) (hl : (selU l fs inv j).length < (sel l fs inv).length) : j < ((sel l fs inv)[(selU l fs inv j).length]).1 := by
  obtain ⟨r, hr, hge⟩ := sel_split l fs inv (j + 1)
  rw [selU_step l fs inv hj, if_neg h, List.append_nil] at hr
  have hlr : 0 < r.length := by
    have := congrArg List.length hr
    rw [List.length_append] at this
    omega
  have e : (sel l fs inv)[(selU l fs inv j).length] = r[0] := by
    have := congrArg (fun s => s[(selU l fs inv j).length]?) hr
    simp only [List.getElem?_eq_getElem hl] at this
    simpa [hlr] using this
  rw [e]
  exact hge _ (List.getElem_mem _)
theorem selU_len (l fs : List R2) (inv : Bool) (j : Nat) (hj : j ≤ l.length) : (selU l fs inv j).length ≤ j := by
  unfold selU
  refine Nat.le_trans (List.length_filter_le _ _) ?_
  rw [up_len hj]
  exact Nat.le_refl _

/-- How many spans begin in the first lines. -/
def fndU (l fs : List R2) : Nat → Nat
  | 0 => 0
  | j + 1 => fndU l fs j + (begF l fs j).length
theorem fnd_snoc (l fs : List R2) (x : R2) (ho : okS l x = true) : ∀ n : Nat, fndU l (fs ++ [x]) n = fndU l fs n + if 0 ≤ fstL l x ∧ fstL l x < n then 1 else 0
  | 0 => by
    rw [if_neg (by omega)]
    rfl
  | n + 1 => by
    rw [fndU, fnd_snoc l fs x ho n, fndU, begF_snoc]
    rw [List.length_append]
    by_cases h : fstL l x = n
    · have a1 : (if okS l x = true ∧ fstL l x = n then [(fs.length : Int)] else []) = [(fs.length : Int)] := if_pos ⟨ho, h⟩
      rw [a1, if_neg (show ¬ (0 ≤ fstL l x ∧ fstL l x < (n : Nat)) by omega), if_pos (show 0 ≤ fstL l x ∧ fstL l x < ((n + 1 : Nat) : Int) by omega)]
      simp only [List.length_cons, List.length_nil]
      omega
    · have a1 : (if okS l x = true ∧ fstL l x = n then [(fs.length : Int)] else []) = [] := if_neg (fun e => h e.2)
      rw [a1]
      by_cases h2 : 0 ≤ fstL l x ∧ fstL l x < (n : Nat)
      · rw [if_pos h2, if_pos (show 0 ≤ fstL l x ∧ fstL l x < ((n + 1 : Nat) : Int) by omega)]
        simp only [List.length_nil]
        omega
      · rw [if_neg h2, if_neg (show ¬ (0 ≤ fstL l x ∧ fstL l x < ((n + 1 : Nat) : Int)) by omega)]
        simp only [List.length_nil]
        omega
theorem fnd_all (l fs : List R2) (n : Nat) (h : ∀ x ∈ fs, okS l x = true ∧ 0 ≤ fstL l x ∧ fstL l x < n) : ∀ k, k ≤ fs.length → fndU l (fs.take k) n = k
  | 0, _ => by
    have : ∀ m, fndU l [] m = 0 := by
      intro m
      induction m with
      | zero => rfl
      | succ m ih => rw [fndU, ih]; rfl
    exact this n
  | k + 1, hk => by
    have hx := h fs[k] (List.getElem_mem _)
    rw [List.take_succ_eq_append_getElem (by omega), fnd_snoc l _ _ hx.1, fnd_all l fs n h k (by omega), if_pos hx.2]
theorem fnd_bound (l fs : List R2) : ∀ j, fndU l fs j ≤ j * fs.length
  | 0 => Nat.zero_le _
  | j + 1 => by
    have := fnd_bound l fs j
    have h2 := begF_len l fs j
    rw [fndU, Nat.add_mul]
    omega
end Go.Proofs.Ytaidcapflcobiaa

/- LinesAll's walk; condition: all fits into memory. -/
namespace Go.Proofs.Ytaidcapflcobiaa
open Go.RowKit

set_option maxRecDepth 100000 in
set_option maxHeartbeats 8000000 in
theorem linesAll_walk (d : ByteArray) (a1 : Option Addr) (c1 : Nat) (ps : List R2) (w : World) (hd : d.size ≤ 1048576) (hl : Rg w a1 ps) (hb : ps.length ≤ 1048576) :
    Calls Try.prog 6 #[.string d, .slice a1 ps.length c1] w fun e w' => e = .returned (.bool true) ∧ Below w.heap.size w w' := by
  obtain ⟨i0, hi, hz0, hz1, hz2⟩ := info_parts info27
  have hln := lns_len d
  have HL := hid hl
  clear hl
  go_enter Try.func6, Try.ntmps6
  go_wp2_with fail
  refine (speaks_yes w).mono ?_
  rintro e w1 ⟨rfl, t1⟩
  have T1 := hid t1
  have R1 := hid (HL.out.new t1)
  clear t1 HL
  go_upto_block 0 with fail
  go_cut [5] (fun v5 wd => ∃ k : Nat, k ≤ 1000 ∧ OwE w1 wd 27 v5 (spF 256 d.size (ps.take k)).2)
  case first =>
    go_wp2_with fail
    go_loopg [5, 6, 7] 1000 (fun gk v f i wr => ∃ k : Nat, k + gk = 1000 ∧ k ≤ ps.length ∧ i = .int .i64 (k : Nat) ∧ f = .int .i64 (spF 256 d.size (ps.take k)).1 ∧ OwE w1 wr 27 v (spF 256 d.size (ps.take k)).2)
    case atStart => exact ⟨0, by omega, by omega, rfl, rfl, OwE.nil _ _⟩
    case round =>
      obtain ⟨k, hk, hkl, rfl, rfl, hown⟩ := hrel
      have OW := hid hown
      obtain ⟨a4, c4, hv4⟩ := own_shape hown.own
      subst hv4
      clear hown
      have hwi := spF_within 256 (by omega) d.size (ps.take k)
      by_cases hlt : k < ps.length
      · by_cases h1000 : k < 1000
        · obtain ⟨b, o, ha, hbl, hcell⟩ : ∃ b o, a1 = some ⟨b, o, none⟩ ∧ b < wr.heap.size ∧ ∀ i (h : i < ps.length), wr.cell? ⟨b, o + i * 2, none⟩ = some (.int .i64 (ps[i]).1) ∧ wr.cell? ⟨b, o + i * 2 + 1, none⟩ = some (.int .i64 (ps[i]).2) := by
            rcases R1.out.new OW.out.touch with h | h
            · rw [h] at hlt; simp at hlt
            · exact h
          subst ha
          obtain ⟨d0, d1⟩ := hcell k hlt
          have HT := hid (show spF 256 d.size (ps.take (k + 1)) = spStep 256 d.size (spF 256 d.size (ps.take k)) ps[k] from by rw [List.take_succ_eq_append_getElem hlt, spF_snoc])
          obtain ⟨r, hr⟩ : ∃ r, r = ps[k] := ⟨_, rfl⟩
          rw [← hr] at d0 d1 HT
          obtain ⟨x, y⟩ := r
          dsimp only at d0 d1
          have hax := and255 x
          have hay := and255 y
          have hx0 := Int.emod_nonneg x (show (256 : Int) ≠ 0 by decide)
          have hx1 := Int.emod_lt_of_pos x (show (0 : Int) < 256 by decide)
          have hy0 := Int.emod_nonneg y (show (256 : Int) ≠ 0 by decide)
          have hy1 := Int.emod_lt_of_pos y (show (0 : Int) < 256 by decide)
          have hkI : (k : Int) < (ps.length : Int) := by omega
          obtain ⟨sp, hsp⟩ : ∃ sp, sp = spF 256 d.size (ps.take k) := ⟨_, rfl⟩
          rw [← hsp] at OW HT hwi ⊢
          clear hcell hr hsp
          obtain ⟨f, s⟩ := sp
          dsimp only at OW hwi ⊢
          have hf0 := hwi.1
          have hf1 := hwi.2.1
          have hsl : s.length ≤ 1000 := by rw [hwi.2.2.2, List.length_take]; omega
          clear hwi
          obtain ⟨xm, hxm⟩ : ∃ xm, xm = x % 256 := ⟨_, rfl⟩
          obtain ⟨ym, hym⟩ : ∃ ym, ym = y % 256 := ⟨_, rfl⟩
          unfold spStep at HT
          dsimp only at HT
          rw [← hxm] at hax hx0 hx1 HT
          rw [← hym] at hay hy0 hy1 HT
          clear hxm hym
          by_cases hA : f + xm ≤ d.size
          · by_cases hB : f + xm + ym ≤ d.size
            · skip
              go_wp2_with (at_builtin; refine wpList_append_own_at _ rfl _ _ 23 rfl 0 27 i0 (.agg #[.int .i64 0, .int .i64 0]) 2 16 Try.underlying23 hi hz0 hz1 hz2 rfl (by decide) _ _ _ rfl (OW.out.own.alloc _) ⟨wr.heap.size, 0, none⟩ 1 1 [.int .i64 (f + xm), .int .i64 (f + xm + ym)] rfl rfl (row_new wr [.int .i64 (f + xm), .int .i64 (f + xm + ym)] 27) (by intro u hu; simp at hu; rcases hu with rfl | rfl <;> rfl) (by unfold maxLen; omega) (by omega) (Nat.zero_le _) ?_)
              intro v6 w6 hown hgrow _ hat
              have P6 := hid (OW.out.more (xs := [(f + xm, f + xm + ym)]) hown hgrow hat)
              clear hown hgrow hat
              go_wp2
              go_roundg (gk - 1)
              case measure => omega
              case rel =>
                refine ⟨k + 1, by omega, by omega, by go_num, ?_, ?_⟩
                · rw [HT.out]
                  exact congrArg (Value.int .i64) (by dsimp only; omega)
                · rw [HT.out]
                  dsimp only
                  rw [show min (f + xm) (d.size : Int) = f + xm by omega, show min (f + xm + ym) (d.size : Int) = f + xm + ym by omega]
                  exact P6.out
            · skip
              go_wp2_with (at_builtin; refine wpList_append_own_at _ rfl _ _ 23 rfl 0 27 i0 (.agg #[.int .i64 0, .int .i64 0]) 2 16 Try.underlying23 hi hz0 hz1 hz2 rfl (by decide) _ _ _ rfl (OW.out.own.alloc _) ⟨wr.heap.size, 0, none⟩ 1 1 [.int .i64 (f + xm), .int .i64 ((d.size : Int))] rfl rfl (row_new wr [.int .i64 (f + xm), .int .i64 ((d.size : Int))] 27) (by intro u hu; simp at hu; rcases hu with rfl | rfl <;> rfl) (by unfold maxLen; omega) (by omega) (Nat.zero_le _) ?_)
              intro v6 w6 hown hgrow _ hat
              have P6 := hid (OW.out.more (xs := [(f + xm, (d.size : Int))]) hown hgrow hat)
              clear hown hgrow hat
              go_wp2
              go_roundg (gk - 1)
              case measure => omega
              case rel =>
                refine ⟨k + 1, by omega, by omega, by go_num, ?_, ?_⟩
                · rw [HT.out]
                  exact congrArg (Value.int .i64) (by dsimp only; omega)
                · rw [HT.out]
                  dsimp only
                  rw [show min (f + xm) (d.size : Int) = f + xm by omega, show min (f + xm + ym) (d.size : Int) = (d.size : Int) by omega]
                  exact P6.out
          · by_cases hB : (d.size : Int) + ym ≤ d.size
            · skip
              go_wp2_with (at_builtin; refine wpList_append_own_at _ rfl _ _ 23 rfl 0 27 i0 (.agg #[.int .i64 0, .int .i64 0]) 2 16 Try.underlying23 hi hz0 hz1 hz2 rfl (by decide) _ _ _ rfl (OW.out.own.alloc _) ⟨wr.heap.size, 0, none⟩ 1 1 [.int .i64 ((d.size : Int)), .int .i64 ((d.size : Int) + ym)] rfl rfl (row_new wr [.int .i64 ((d.size : Int)), .int .i64 ((d.size : Int) + ym)] 27) (by intro u hu; simp at hu; rcases hu with rfl | rfl <;> rfl) (by unfold maxLen; omega) (by omega) (Nat.zero_le _) ?_)
              intro v6 w6 hown hgrow _ hat
              have P6 := hid (OW.out.more (xs := [((d.size : Int), (d.size : Int) + ym)]) hown hgrow hat)
              clear hown hgrow hat
              go_wp2
              go_roundg (gk - 1)
              case measure => omega
              case rel =>
                refine ⟨k + 1, by omega, by omega, by go_num, ?_, ?_⟩
                · rw [HT.out]
                  exact congrArg (Value.int .i64) (by dsimp only; omega)
                · rw [HT.out]
                  dsimp only
                  rw [show min (f + xm) (d.size : Int) = (d.size : Int) by omega, show min ((d.size : Int) + ym) (d.size : Int) = (d.size : Int) + ym by omega]
                  exact P6.out
            · skip
              go_wp2_with (at_builtin; refine wpList_append_own_at _ rfl _ _ 23 rfl 0 27 i0 (.agg #[.int .i64 0, .int .i64 0]) 2 16 Try.underlying23 hi hz0 hz1 hz2 rfl (by decide) _ _ _ rfl (OW.out.own.alloc _) ⟨wr.heap.size, 0, none⟩ 1 1 [.int .i64 ((d.size : Int)), .int .i64 ((d.size : Int))] rfl rfl (row_new wr [.int .i64 ((d.size : Int)), .int .i64 ((d.size : Int))] 27) (by intro u hu; simp at hu; rcases hu with rfl | rfl <;> rfl) (by unfold maxLen; omega) (by omega) (Nat.zero_le _) ?_)
              intro v6 w6 hown hgrow _ hat
              have P6 := hid (OW.out.more (xs := [((d.size : Int), (d.size : Int))]) hown hgrow hat)
              clear hown hgrow hat
              go_wp2
              go_roundg (gk - 1)
              case measure => omega
              case rel =>
                refine ⟨k + 1, by omega, by omega, by go_num, ?_, ?_⟩
                · rw [HT.out]
                  exact congrArg (Value.int .i64) (by dsimp only; omega)
                · rw [HT.out]
                  dsimp only
                  rw [show min (f + xm) (d.size : Int) = (d.size : Int) by omega, show min ((d.size : Int) + ym) (d.size : Int) = (d.size : Int) by omega]
                  exact P6.out
        · have h2 : (1000 : Int) ≤ k := by omega
          have hkI : (k : Int) < (ps.length : Int) := by omega
          go_wp2_with fail
          go_meet
          case rel => exact ⟨k, by omega, OW.out⟩
      · have hkI : (ps.length : Int) ≤ (k : Int) := by omega
        go_wp2_with fail
        go_meet
        case rel => exact ⟨k, by omega, OW.out⟩
  obtain ⟨kk, hkk, ow⟩ := hcut
  have hwi := spF_within 256 (by omega) d.size (ps.take kk)
  obtain ⟨A, hA⟩ : ∃ A, A = (spF 256 d.size (ps.take kk)).2 := ⟨_, rfl⟩
  rw [← hA] at ow hwi
  have HW := hid hwi.2.2.1
  have hAl : A.length ≤ 1000 := by rw [hwi.2.2.2, List.length_take]; omega
  clear hA hwi
  obtain ⟨a5, c5, hv5, hr5⟩ := ow.rg
  subst hv5
  have T2 := hid (T1.out.trans ow.touch (fun _ _ e => e))
  have R5 := hid hr5
  have HIN := hid (show ∀ x ∈ A, 0 ≤ x.2 ∧ x.2 ≤ 4194304 from fun x hx => by have := HW.out x hx; omega)
  clear ow hr5 T1 R1
  have K := hid (select_any d (by omega) a5 c5 A false wc R5.out (by omega) HIN.out)
  go_wp2_with fail
  refine K.out.mono ?_
  rintro e w3 ⟨la, lc, rfl, hlg, t3⟩
  have G1 := hid hlg
  replace T2 := hid (T2.out.trans t3 (fun _ _ e => e))
  replace R5 := hid (R5.out.new t3)
  clear K hlg t3
  have K := hid (select_any d (by omega) a5 c5 A true w3 R5.out (by omega) HIN.out)
  go_wp2_with fail
  refine K.out.mono ?_
  rintro e w4 ⟨ma, mc, rfl, hlg, t4⟩
  replace G1 := hid (G1.out.new t4)
  have G2 := hid hlg
  replace T2 := hid (T2.out.trans t4 (fun _ _ e => e))
  clear K hlg t4 R5
  obtain ⟨L, hL⟩ : ∃ L, L = (lns d).length := ⟨_, rfl⟩
  have K := hid (show Calls Try.prog 9 #[.string d] w4 fun e w' => ∃ a c, e = .returned (.slice a L c) ∧ Touch (fun _ => False) w4 w' from (split_any d (by omega) w4).mono (fun e w' h => by
    obtain ⟨a, c, he, _, _, _, t⟩ := h
    exact ⟨a, c, by rw [hL]; exact he, t⟩))
  rw [← hL] at hln
  have HLL := hid hL
  clear hL
  go_wp2_with fail
  refine K.out.mono ?_
  rintro e w5 ⟨sa, sc, rfl, t5⟩
  replace G1 := hid (G1.out.new t5)
  replace G2 := hid (G2.out.new t5)
  replace T2 := hid (T2.out.trans t5 (fun _ _ e => e))
  clear K t5
  go_wp2_with fail
  go_loopg [11, 12, 13, 14] L (fun gk f i m n wr => ∃ j : Nat, j + gk = L ∧ n = .int .i64 ((j : Int) + 1) ∧ f = .int .i64 (fndU (lns d) A j : Nat) ∧ i = .int .i64 ((selU (lns d) A false j).length : Nat) ∧ m = .int .i64 ((selU (lns d) A true j).length : Nat) ∧ w5 = wr)
  case atStart => exact ⟨0, by omega, rfl, rfl, rfl, rfl, rfl⟩
  case round =>
    obtain ⟨j, hj, rfl, rfl, rfl, rfl, rfl⟩ := hrel
    have hj' : j ≤ (lns d).length := by rw [← HLL.out]; omega
    have hs1 := selU_len (lns d) A false j hj'
    have hs2 := selU_len (lns d) A true j hj'
    have hfb : fndU (lns d) A j ≤ 1048576 * 1000 := Nat.le_trans (fnd_bound (lns d) A j) (Nat.mul_le_mul (by omega) hAl)
    by_cases hlt : j < L
    · have hlt' : j < (lns d).length := by rw [← HLL.out]; exact hlt
      have hjI : (j : Int) + 1 ≤ (L : Int) := by omega
      have HST1 := hid (selU_step (lns d) A false hlt')
      have HST2 := hid (selU_step (lns d) A true hlt')
      have HFN := hid (show fndU (lns d) A (j + 1) = fndU (lns d) A j + (begF (lns d) A j).length from rfl)
      have hbl := begF_len (lns d) A j
      obtain ⟨F, hF⟩ : ∃ F, F = fndU (lns d) A j := ⟨_, rfl⟩
      obtain ⟨I, hI⟩ : ∃ I, I = (selU (lns d) A false j).length := ⟨_, rfl⟩
      obtain ⟨M, hM⟩ : ∃ M, M = (selU (lns d) A true j).length := ⟨_, rfl⟩
      by_cases hh : hitB (lns d) A j = true
      · obtain ⟨hl1, he⟩ := sel_hit (lns d) A false j hlt' (by rw [hh]; rfl)
        obtain ⟨b, ak, ck, hla, _, c0, _, _, c3, _⟩ := G1.out _ hl1
        simp only [he] at c0 c3
        have HN1 := hid (show (selU (lns d) A false (j + 1)).length = I + 1 from by rw [HST1.out, hh, List.length_append, ← hI]; rfl)
        have HN2 := hid (show (selU (lns d) A true (j + 1)).length = M from by rw [HST2.out, hh, List.length_append, ← hM]; rfl)
        rw [← hI] at c0 c3 hl1 hs1 ⊢
        rw [← hM] at hs2 ⊢
        rw [← hF] at HFN hfb ⊢
        subst hla
        have hII : (I : Int) < ((sel (lns d) A false).length : Int) := by omega
        clear hI hM hF he HST1 HST2
        obtain ⟨q, hq⟩ : ∃ q, q = (begF (lns d) A j).length := ⟨_, rfl⟩
        rw [← hq] at c3 HFN hbl
        clear hq
        go_wp2
        go_roundg (gk - 1)
        case measure => omega
        case rel => exact ⟨j + 1, by omega, by go_num, by rw [HFN.out]; go_num, by rw [HN1.out]; go_num, by rw [HN2.out], rfl⟩
      · have hh' : hitB (lns d) A j = false := by simpa using hh
        obtain ⟨hl2, he⟩ := sel_hit (lns d) A true j hlt' (by rw [hh']; rfl)
        obtain ⟨b, ak, ck, hma, _, c0, _, _, c3, _⟩ := G2.out _ hl2
        simp only [he] at c0 c3
        rw [beg_none _ _ _ hh'] at c3
        have HN1 := hid (show (selU (lns d) A false (j + 1)).length = I from by rw [HST1.out, hh', List.length_append, ← hI]; rfl)
        have HN2 := hid (show (selU (lns d) A true (j + 1)).length = M + 1 from by rw [HST2.out, hh', List.length_append, ← hM]; rfl)
        have HF2 := hid (show fndU (lns d) A (j + 1) = F from by rw [HFN.out, beg_none _ _ _ hh', ← hF]; rfl)
        have HMS := hid (sel_miss (lns d) A false j hlt' (by rw [hh']; decide))
        rw [← hI] at hs1 HMS ⊢
        rw [← hM] at c0 c3 hl2 hs2 ⊢
        rw [← hF] at hfb ⊢
        subst hma
        have hMI : (M : Int) < ((sel (lns d) A true).length : Int) := by omega
        clear hF he HST1 HST2 HFN
        by_cases hl1 : I < (sel (lns d) A false).length
        · have hgt := HMS.out hl1
          obtain ⟨b', ak', ck', hla, _, g0, _, _, _, _⟩ := G1.out I hl1
          subst hla
          obtain ⟨q, hq⟩ : ∃ q, q = ((sel (lns d) A false)[I]).1 := ⟨_, rfl⟩
          rw [← hq] at g0 hgt
          have hII : (I : Int) < ((sel (lns d) A false).length : Int) := by omega
          have hb1 : ((q : Int) + 1 == (j : Int) + 1) = false := by simp; omega
          have hb2 : ¬ ((q : Int) + 1 = (j : Int) + 1) := by omega
          have hb3 : ¬ ((q : Int) = (j : Int)) := by omega
          have hb4 : ((q : Int) == (j : Int)) = false := by simp; omega
          clear hI hM hq
          go_wp2
          go_roundg (gk - 1)
          case measure => omega
          case rel => exact ⟨j + 1, by omega, by go_num, by rw [HF2.out], by rw [HN1.out], by rw [HN2.out]; go_num, rfl⟩
        · have hII : ((sel (lns d) A false).length : Int) ≤ (I : Int) := by omega
          clear hI hM
          go_wp2
          go_roundg (gk - 1)
          case measure => omega
          case rel => exact ⟨j + 1, by omega, by go_num, by rw [HF2.out], by rw [HN1.out], by rw [HN2.out]; go_num, rfl⟩
    · obtain rfl : j = L := by omega
      have e1 : (selU (lns d) A false j).length = (sel (lns d) A false).length := by rw [HLL.out]; rfl
      have e2 : (selU (lns d) A true j).length = (sel (lns d) A true).length := by rw [HLL.out]; rfl
      have HFD := hid (show 0 < j → fndU (lns d) A j = A.length from fun h => by
        have := fnd_all (lns d) A (lns d).length (fun x hx => by
          have hx' := HW.out x hx
          exact within_ok d (by rw [← HLL.out]; exact h) ⟨hx'.1, hx'.2.1⟩) A.length (Nat.le_refl _)
        rw [List.take_length] at this
        rw [HLL.out]
        exact this)
      rw [e1, e2]
      clear e1 e2
      by_cases h0 : j = 0
      · subst h0
        go_wp2
        go_ret
        exact ⟨rfl, T2.out.below _ (Nat.le_refl _) (fun _ e => e.elim)⟩
      · have hf := HFD.out (by omega)
        rw [hf]
        have h0I : ¬ (j : Int) = 0 := by omega
        go_wp2
        go_ret
        exact ⟨rfl, T2.out.below _ (Nat.le_refl _) (fun _ e => e.elim)⟩
end Go.Proofs.Ytaidcapflcobiaa
