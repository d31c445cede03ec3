/- Texts of this proof, one behind the other: what each says stands ahead of it. -/
import Derived.Test.YtohcngiiijokkaaDoorM11
import Derived.Test.YtohcngiiijokkaaDoorM13
import Derived.BigQuiet
import Derived.Test.YtohcngiiijokkaaDoorM2
import Derived.Test.YtohcngiiijokkaaDoorM1
import Derived.Test.YtohcngiiijokkaaDoorM4
/- New where the lengths make a table. -/
namespace Go.Proofs.YtohcngiiijokkaaDoor
open Go.RowKit

theorem tab_new (w : World) (cv : Value) : Tab (w.alloc (.cells #[cv, .slice none 0 0] 123)) w.heap.size cv ⟨fun _ => 0, fun _ => 0, fun _ => 0⟩ 0 ∧ ∀ j, TFp (w.alloc (.cells #[cv, .slice none 0 0] 123)) w.heap.size j → j = w.heap.size := by
  have hb : (w.alloc (.cells #[cv, .slice none 0 0] 123)).heap[w.heap.size]? = some (.cells #[cv, .slice none 0 0] 123 (0, 0)) := by
    show (w.heap.push _)[_]? = _
    simp
  refine ⟨⟨_, hb, World.ownsRow_nil _ _ _ _⟩, ?_⟩
  rintro j (h | ⟨c, v, h, ho⟩)
  · exact h
  · rw [hb] at h
    simp at h
    obtain ⟨rfl, rfl⟩ := h
    simp [Value.ownBlock] at ho

theorem Ints.beside {S : Nat → Prop} {w w' : World} {a : Option Addr} {len : Nat} {f : Nat → Int} (h : Ints w a len f) (t : Touch S w w') (hs : ∀ b o, a = some ⟨b, o, none⟩ → b < w.heap.size → ¬ S b) : Ints w' a len f := by
  rcases h with h | ⟨b, o, rfl, hb, hc⟩
  · exact .inl h
  · exact .inr ⟨b, o, rfl, Nat.lt_of_lt_of_le hb t.size, fun i hi => by rw [t.cell (p := ⟨b, o + i, none⟩) hb (hs b o rfl hb)]; exact hc i hi⟩

theorem sym_part {laid laid' : Nat → Prop} {f path : Nat → Nat} (h : Tb.Sym laid f path) (e : ∀ i, laid' i → laid i) : Tb.Sym laid' f path :=
  ⟨fun i hi => h.len i (e i hi), fun i hi => h.lt i (e i hi), fun i j hi hj => h.apart i j (e i hi) (e j hj)⟩

set_option maxRecDepth 100000 in
set_option maxHeartbeats 4000000 in
theorem new_ok (a : Option Addr) (len cap : Nat) (f : Nat → Nat) (w : World) (hl : len ≤ 1024) (hf : ∀ i, f i ≤ 15) (hi : Ints w a len (fun i => (f i : Nat))) (he : errOf f len = 0) :
    Calls Tryd.prog 75 #[.slice a len cap] w fun e w' => ∃ b, e = .returned (.tuple #[.pointer (some ⟨b, 0, none⟩), .int .i64 0]) ∧ TblIn w' b f len w.heap.size w'.heap.size ∧ Touch (fun _ => False) w w' := by
  have HF := hid hf
  have HI := hid hi
  have HE := hid he
  clear hf hi he
  go_enter Tryd.func75, Tryd.ntmps75
  go_wp2_with fail
  go_loopw [16] (fun i wr => ∃ k : Nat, k ≤ len ∧ i = .int .i64 k ∧ Blk wr w.heap.size (cnts f k) ∧ Touch (fun _ => False) w wr) (fun i _ => len - (intOf i).toNat)
  case atStart => exact ⟨0, Nat.zero_le _, rfl, blk_zero w, (Touch.refl _ w).alloc _⟩
  case round =>
    obtain ⟨k, hk, rfl, hb1, ht⟩ := hrel
    have Z := hid hb1
    have TT := hid ht
    clear hb1 ht
    by_cases hlt : k < len
    · rcases (HI.out.new TT.out) with h | ⟨b, o, ha, hb, hcell⟩
      · omega
      · subst ha
        have d0 : wr.cell? ⟨b, o + k, none⟩ = some (.int .i64 (f k : Nat)) := hcell k hlt
        have hfk := HF.out k
        have d1 := Z.out.cell (f k) (by omega)
        have d2 := Z.out.free (f k)
        have hcn : cnts f k (f k) ≤ 1024 := by have := cntTo_le f (f k) k; unfold cnts; omega
        have hst := hid ((Z.out.set (f k) (cnts f k (f k) + 1)).ext (fun j _ => cnts_step f k j))
        generalize cnts f k (f k) = x at *
        clear hcell
        go_wp2
        go_roundw
        case rel => exact ⟨k + 1, by omega, by go_num, by have := hst.out; simpa using this, TT.out.setCell (fun h => by simp at h) _⟩
        case measure => simp [intOf]; omega
    · obtain rfl : k = len := by omega
      have d2 := Z.out.free 0
      have c0 := Z.out.cell 0 (by decide)
      have c1 := Z.out.cell 1 (by decide)
      have c2 := Z.out.cell 2 (by decide)
      have c3 := Z.out.cell 3 (by decide)
      have c4 := Z.out.cell 4 (by decide)
      have c5 := Z.out.cell 5 (by decide)
      have c6 := Z.out.cell 6 (by decide)
      have c7 := Z.out.cell 7 (by decide)
      have c8 := Z.out.cell 8 (by decide)
      have c9 := Z.out.cell 9 (by decide)
      have c10 := Z.out.cell 10 (by decide)
      have c11 := Z.out.cell 11 (by decide)
      have c12 := Z.out.cell 12 (by decide)
      have c13 := Z.out.cell 13 (by decide)
      have c14 := Z.out.cell 14 (by decide)
      have c15 := Z.out.cell 15 (by decide)
      have hst := hid ((Z.out.set 0 0).ext (fun j _ => cnts_cOf f k j))
      have hnx : ¬ (k : Int) < (k : Int) := by omega
      have hA : cArr (cOf f k) = #[.int .i64 0, .int .i64 (cnts f k 1 : Nat), .int .i64 (cnts f k 2 : Nat), .int .i64 (cnts f k 3 : Nat), .int .i64 (cnts f k 4 : Nat), .int .i64 (cnts f k 5 : Nat), .int .i64 (cnts f k 6 : Nat), .int .i64 (cnts f k 7 : Nat), .int .i64 (cnts f k 8 : Nat), .int .i64 (cnts f k 9 : Nat), .int .i64 (cnts f k 10 : Nat), .int .i64 (cnts f k 11 : Nat), .int .i64 (cnts f k 12 : Nat), .int .i64 (cnts f k 13 : Nat), .int .i64 (cnts f k 14 : Nat), .int .i64 (cnts f k 15 : Nat)] := by simp [cArr, cOf, cnts]
      have HA := hid hA
      clear hA
      go_wp2_with fail
      rw [← HA.out]
      refine (room_any (cOf f k) _ (fun i => by have := cOf_le f k i; omega)).mono ?_
      rintro e w1 ⟨rfl, ht⟩
      rw [err_eq f HF.out k]
      rw [HE.out]
      have T1 := hid ((TT.out.setCell (p := ⟨w.heap.size, 0, none⟩) (fun h => by simp at h) (.int .i64 0)).trans ht (fun _ _ e => e))
      have C1 := hid (show Blk w1 w.heap.size (cOf f k) from hst.out.same (ht.block _ (by simpa using hst.out.lt) id))
      clear ht c0 c1 c2 c3 c4 c5 c6 c7 c8 c9 c10 c11 c12 c13 c14 c15 d2
      have c0 := C1.out.cell 0 (by decide)
      have c1 := C1.out.cell 1 (by decide)
      have c2 := C1.out.cell 2 (by decide)
      have c3 := C1.out.cell 3 (by decide)
      have c4 := C1.out.cell 4 (by decide)
      have c5 := C1.out.cell 5 (by decide)
      have c6 := C1.out.cell 6 (by decide)
      have c7 := C1.out.cell 7 (by decide)
      have c8 := C1.out.cell 8 (by decide)
      have c9 := C1.out.cell 9 (by decide)
      have c10 := C1.out.cell 10 (by decide)
      have c11 := C1.out.cell 11 (by decide)
      have c12 := C1.out.cell 12 (by decide)
      have c13 := C1.out.cell 13 (by decide)
      have c14 := C1.out.cell 14 (by decide)
      have c15 := C1.out.cell 15 (by decide)
      have hA2 : cArr (cOf f k) = #[.int .i64 (cOf f k 0 : Nat), .int .i64 (cOf f k 1 : Nat), .int .i64 (cOf f k 2 : Nat), .int .i64 (cOf f k 3 : Nat), .int .i64 (cOf f k 4 : Nat), .int .i64 (cOf f k 5 : Nat), .int .i64 (cOf f k 6 : Nat), .int .i64 (cOf f k 7 : Nat), .int .i64 (cOf f k 8 : Nat), .int .i64 (cOf f k 9 : Nat), .int .i64 (cOf f k 10 : Nat), .int .i64 (cOf f k 11 : Nat), .int .i64 (cOf f k 12 : Nat), .int .i64 (cOf f k 13 : Nat), .int .i64 (cOf f k 14 : Nat), .int .i64 (cOf f k 15 : Nat)] := rfl
      have HA2 := hid hA2
      clear hA2
      generalize hAA : cArr (cOf f k) = A
      have HAA := hid hAA
      clear hAA
      go_wp2_with fail
      rw [← HA2.out]
      have hI := HI.out.new T1.out
      refine (codes_any a k cap f (cOf f k) w1 hl HF.out (fun i => by have := cOf_le f k i; omega) hI).mono ?_
      rintro e w2 ⟨g, rfl, ho, ht⟩
      have O2 := hid ho
      have T2 := hid ht
      clear ho ht hI HA2 c0 c1 c2 c3 c4 c5 c6 c7 c8 c9 c10 c11 c12 c13 c14 c15
      generalize cArr (cOf f k) = B
      go_wp2_with fail
      obtain ⟨cf, hcf⟩ : ∃ cf, cf = codeOf (cOf f k) f := ⟨_, rfl⟩
      have hglt := O2.out.lt g rfl
      have hN := tab_new w2 (.slice (some ⟨g, 0, none⟩) k k)
      have tA : Touch (fun _ => False) w (w2.alloc (.cells #[.slice (some ⟨g, 0, none⟩) k k, .slice none 0 0] 123)) := (T1.out.trans T2.out (fun _ _ e => e)).alloc _
      have iC : Ints (w2.alloc (.cells #[.slice (some ⟨g, 0, none⟩) k k, .slice none 0 0] 123)) (some ⟨g, 0, none⟩) k (fun i => (cf i : Nat)) := by
        rw [hcf]
        have o2 := O2.out
        rw [natsV, List.map_map] at o2
        exact (own_ints o2).new ((Touch.refl _ w2).alloc _)
      have hsW : (w2.alloc (.cells #[.slice (some ⟨g, 0, none⟩) k k, .slice none 0 0] 123)).heap.size = w2.heap.size + 1 := by simp
      have hw1 := T1.out.size
      have hw2 := T2.out.size
      generalize w2.alloc (.cells #[.slice (some ⟨g, 0, none⟩) k k, .slice none 0 0] 123) = W0 at *
      clear O2 T1 T2 C1 HA HAA hst
      generalize w2.heap.size = bt at *
      have ng : ¬ TFp W0 bt g := fun e => by have := hN.2 g e; omega
      have HN := hid hN
      have TA := hid tA
      have IC := hid iC
      have NG := hid ng
      have HCF := hid hcf
      clear hN tA iC ng hcf
      go_loopw [45] (fun i wr => ∃ (n : Nat) (C : Tb.Cells) (sz : Nat), n ≤ k ∧ i = .int .i64 (n : Nat) ∧ TStep W0 wr bt (.slice (some ⟨g, 0, none⟩) k k) C sz ∧ Good C sz (fun j => j < n ∧ f j ≠ 0) f (pathOf f k) ∧ sz ≤ 96 * n) (fun i _ => k - (intOf i).toNat)
      case atStart => exact ⟨0, _, 0, Nat.zero_le _, rfl, TStep.refl HN.out.1, .inl ⟨rfl, fun i h => by omega⟩, by omega⟩
      case round =>
        obtain ⟨n, C, sz, hn, rfl, hst, hgood, hsz⟩ := hrel
        have ST := hid hst
        have HG := hid hgood
        clear hst hgood
        have tW : Touch (fun _ => False) w wr := TA.out.trans ST.out.touch (fun i hi e => by have := HN.out.2 i e; omega)
        by_cases hlt : n < k
        · rcases HI.out.new tW with h | ⟨b', o', ha, hb', hcell⟩
          · omega
          · subst ha
            have d0 : wr.cell? ⟨b', o' + n, none⟩ = some (.int .i64 (f n : Nat)) := hcell n hlt
            clear hcell tW
            by_cases hf0 : f n = 0
            · rw [hf0] at d0
              have HG2 := hid (HG.out.same (laid' := fun j => j < n + 1 ∧ f j ≠ 0) (fun i => ⟨fun h => ⟨by omega, h.2⟩, fun h => ⟨by rcases Nat.lt_or_ge i n with g | g; exact g; exact absurd (by rw [show i = n by omega]; exact hf0) h.2, h.2⟩⟩))
              go_wp2_with fail
              go_roundw
              case rel => exact ⟨n + 1, C, sz, by omega, by go_num, ST.out, HG2.out, by omega⟩
              case measure => simp [intOf]; omega
            · have hpos : (0 : Int) < ((f n : Nat) : Int) := by omega
              have hfn := HF.out n
              have ngr : ¬ TFp wr bt g := fun e => (ST.out.fp g e).elim NG.out (fun h => by omega)
              have icr := IC.out.beside ST.out.touch (fun b o e _ => by simp at e; rw [← e.1]; exact NG.out)
              have hsym := sym_part (laid' := fun i => (i < n ∧ f i ≠ 0) ∨ i = n) (sym_of f HF.out k (err_ok HE.out).1) (fun i h => h.elim (fun h => ⟨by omega, h.2⟩) (fun h => by subst h; exact ⟨hlt, hf0⟩))
              have hlay := lay_any bt sz g k n n C f cf (pathOf f k) (fun j => j < n ∧ f j ≠ 0) wr ST.out.tab icr ngr hlt (by omega) hsz HG.out (fun h => by omega) hsym (by rw [HCF.out]; rfl)
              have HL := hid hlay
              clear hlay hsym icr ngr
              go_wp2_with fail
              refine HL.out.mono ?_
              rintro e w3 ⟨rfl, C', sz', hst', hgood', hsz'⟩
              have ST2 := hid (ST.out.trans hst')
              have HG2 := hid (hgood'.same (laid' := fun j => j < n + 1 ∧ f j ≠ 0) (fun i => ⟨fun h => h.elim (fun h => ⟨by omega, h.2⟩) (fun h => by subst h; exact ⟨by omega, hf0⟩), fun h => by
                rcases Nat.lt_or_ge i n with g | g
                · exact .inl ⟨g, h.2⟩
                · exact .inr (by omega)⟩))
              clear hst' hgood' HL
              go_wp2_with fail
              go_roundw
              case rel => exact ⟨n + 1, C', sz', by omega, by go_num, ST2.out, HG2.out, hsz'⟩
              case measure => simp [intOf]; omega
        · obtain rfl : n = k := by omega
          have TW := hid tW
          clear tW
          go_wp2_with fail
          go_ret2
          have icr := IC.out.beside ST.out.touch (fun b o e _ => by simp at e; rw [← e.1]; exact NG.out)
          rw [HCF.out] at icr
          refine ⟨bt, rfl, ⟨g, C, sz, ST.out.tab, icr, HG.out, by omega, ?_⟩, TW.out⟩
          have hs0 := ST.out.touch.size
          rintro j (h | rfl)
          · refine ⟨?_, ST.out.tab.fp_lt h⟩
            rcases ST.out.fp j h with h | h
            · have := HN.out.2 j h
              omega
            · omega
          · omega
end Go.Proofs.YtohcngiiijokkaaDoor

/- Two lists held against each other. -/
namespace Go.Proofs.YtohcngiiijokkaaDoor
open Go.RowKit

end Go.Proofs.YtohcngiiijokkaaDoor

/- speaks of layer 2: four symbols. -/
namespace Go.Proofs.YtohcngiiijokkaaDoor
open Go.RowKit

theorem ret_bool {a b : Bool} (h : a = b) : Ending.returned (.bool a) = .returned (.bool b) := by rw [h]

def sf (i : Nat) : Nat := [2, 1, 3, 3].getD i 0

theorem sf_err : errOf sf 4 = 0 := by decide
theorem sf_le (i : Nat) : sf i ≤ 15 := by
  unfold sf
  rcases i with _ | _ | _ | _ | i <;> simp
theorem sf_ints (w : World) : Ints (w.alloc (.cells #[.int .i64 2, .int .i64 1, .int .i64 3, .int .i64 3] 3)) (some ⟨w.heap.size, 0, none⟩) 4 (fun i => (sf i : Nat)) := by
  refine .inr ⟨w.heap.size, 0, rfl, by simp, fun i hi => ?_⟩
  have hb : (w.alloc (.cells #[.int .i64 2, .int .i64 1, .int .i64 3, .int .i64 3] 3)).heap[w.heap.size]? = some (.cells #[.int .i64 2, .int .i64 1, .int .i64 3, .int .i64 3] 3) := by
    show (w.heap.push _)[_]? = _
    simp
  rcases i with _ | _ | _ | _ | i
  · simp only [World.cell?, hb]; rfl
  · simp only [World.cell?, hb]; rfl
  · simp only [World.cell?, hb]; rfl
  · simp only [World.cell?, hb]; rfl
  · omega

def s3 : ByteArray := ⟨#[3]⟩

theorem sf_next {r : Nat} {w w' : World} {e : Ending} (h : Answer (Laid sf 4) sf (pathOf sf 4) (Bt.rval s3 0 (min 15 (8 * s3.size - 0))) s3 0 r w e w') :
    e = .returned (.tuple #[.int .i64 2, .int .i64 0]) ∧ RStep w w' r s3 3 := by
  have hp : Bt.rval s3 0 (min 15 (8 * s3.size - 0)) = 3 := by decide +kernel
  rw [hp] at h
  have one : ∀ i, Laid sf 4 i → 3 % 2 ^ sf i = pathOf sf 4 i → i = 2 := by
    rintro i ⟨hi, _⟩ e
    have : i = 0 ∨ i = 1 ∨ i = 2 ∨ i = 3 := by omega
    rcases this with rfl | rfl | rfl | rfl
    · exact absurd e (by decide +kernel)
    · exact absurd e (by decide +kernel)
    · rfl
    · exact absurd e (by decide +kernel)
  rcases h with ⟨i, h1, h2, h3, h4, h5⟩ | ⟨i, h1, h2, h3, h4, h5⟩ | ⟨h1, h2, h3⟩
  · obtain rfl := one i h1 h2
    exact ⟨h4, h5⟩
  · obtain rfl := one i h1 h2
    exact absurd h3 (by decide +kernel)
  · exact absurd (h1 2 ⟨by decide, by decide⟩) (by decide +kernel)

end Go.Proofs.YtohcngiiijokkaaDoor

/- The document's answer: the codes of lengths, or what is wrong with them; conditions: at most 1024 lengths. -/
namespace Go.Proofs.YtohcngiiijokkaaDoor
open Go.RowKit

theorem ref_step (f : Nat → Nat) (k : Nat) (h0 : f k ≠ 0) (hk : k ≤ 1024) : wrap64 ((rm f k : Int) + wrap64 (2 ^ (15 - f k))) = ((rm f (k + 1) : Nat) : Int) := by
  have h1 := rm_le f k
  have h2 : 2 ^ (15 - f k) ≤ 2 ^ 15 := Nat.pow_le_pow_right (by decide) (by omega)
  have e : (2 : Int) ^ (15 - f k) = ((2 ^ (15 - f k) : Nat) : Int) := by simp
  rw [e, rm, if_neg h0]
  generalize 2 ^ (15 - f k) = p at *
  unfold wrap64
  omega

theorem ret_sl {v : Value} {a b : Int} (h : a = b) : Ending.returned (.tuple #[v, .int .i64 a]) = .returned (.tuple #[v, .int .i64 b]) := by rw [h]

set_option maxRecDepth 100000 in
set_option maxHeartbeats 4000000 in
theorem refnew_err (a : Option Addr) (len cap : Nat) (f : Nat → Nat) (w : World) (hl : len ≤ 1024) (hf : ∀ i, f i ≤ 15) (hi : Ints w a len (fun i => (f i : Nat))) (he : errOf f len ≠ 0) :
    Calls Tryd.prog 41 #[.slice a len cap] w fun e w' => e = .returned (.tuple #[.slice none 0 0, .int .i64 (errOf f len : Nat)]) ∧ w' = w := by
  have HF := hid hf
  have HI := hid hi
  obtain ⟨r, hr⟩ : ∃ r, errOf f len = r := ⟨_, rfl⟩
  have HR := hid hr
  rw [hr] at he ⊢
  have HE := hid he
  clear hf hi hr he
  go_enter Tryd.func41, Tryd.ntmps41
  go_wp2_with fail
  go_loop [4, 5, 6] (fun r u i => ∃ k : Nat, k ≤ len ∧ i = .int .i64 k ∧ r = .int .i64 (rm f k : Nat) ∧ u = .int .i64 (usedTo f k : Nat)) (fun _ _ i => len - (intOf i).toNat)
  case atStart => exact ⟨0, Nat.zero_le _, rfl, rfl, rfl⟩
  case round =>
    obtain ⟨k, hk, rfl, rfl, rfl⟩ := hrel
    have hrl := rm_le f k
    have hul := used_le f k
    by_cases hlt : k < len
    · rcases HI.out with h | ⟨b, o, ha, hb, hcell⟩
      · omega
      · subst ha
        have d0 : w.cell? ⟨b, o + k, none⟩ = some (.int .i64 (f k : Nat)) := hcell k hlt
        have hfk := HF.out k
        clear hcell
        by_cases h0 : f k = 0
        · rw [h0] at d0
          have H0 := hid h0
          clear h0 hfk
          go_wp2
          go_round
          case rel => exact ⟨k + 1, by omega, by go_num, by rw [rm, if_pos H0.out, Nat.add_zero], by rw [usedTo, if_pos H0.out, Nat.add_zero]⟩
          case measure => simp [intOf]; omega
        · have hst := hid (ref_step f k h0 (by omega))
          have hus : usedTo f (k + 1) = usedTo f k + 1 := by rw [usedTo, if_neg h0]
          have HUS := hid hus
          have hp : (0 : Int) < (f k : Int) := by omega
          have hs : (0 : Int) ≤ 15 - (f k : Int) := by omega
          have hn1 : ¬ (f k : Int) < 0 := by omega
          have hn2 : ¬ (15 : Int) < (f k : Int) := by omega
          clear hus h0
          go_wp2
          go_round
          case rel => exact ⟨k + 1, by omega, by go_num, by rw [hst.out], by rw [HUS.out]; go_num⟩
          case measure => simp [intOf]; omega
    · obtain rfl : k = len := by omega
      have RR := HR.out
      unfold errOf at RR
      have HRR := hid RR
      clear HF HI HR RR
      generalize rm f k = rt at *
      generalize usedTo f k = st at *
      by_cases e1 : 32768 < rt
      · have E : Hid (r = 6) := by have := HRR.out; rw [if_pos e1] at this; exact this.symm
        go_wp2
        go_ret2
        exact ⟨ret_sl (by have := E.out; omega), rfl⟩
      · have q1 : ¬ (32768 : Int) < (rt : Int) := by omega
        have hc : rt < 32768 ∧ 0 < st ∧ ¬ (st = 1 ∧ rt = 16384) := by
          have h := HRR.out
          rw [if_neg e1] at h
          by_cases hc : rt < 32768 ∧ 0 < st ∧ ¬ (st = 1 ∧ rt = 16384)
          · exact hc
          · rw [if_neg hc] at h
            exact absurd h.symm HE.out
        have E : Hid (r = 7) := by have := HRR.out; rw [if_neg e1, if_pos hc] at this; exact this.symm
        obtain ⟨hc1, hc2, hc3⟩ := hc
        have q2 : (rt : Int) < 32768 := by omega
        have q3 : (0 : Int) < (st : Int) := by omega
        by_cases e4 : st = 1
        · have q4 : ((st : Int) == 1) = true := by simp; omega
          have q5 : ((rt : Int) == 16384) = false := by simp; omega
          clear e4 hc3
          go_wp2
          go_ret2
          exact ⟨ret_sl (by have := E.out; omega), rfl⟩
        · have q4 : ((st : Int) == 1) = false := by simp; omega
          clear e4 hc3
          go_wp2
          go_ret2
          exact ⟨ret_sl (by have := E.out; omega), rfl⟩
theorem refnew_big (a : Option Addr) (len cap : Nat) (w : World) (hl : 1024 < len) (hb : len ≤ 140737488351232) :
    Calls Tryd.prog 41 #[.slice a len cap] w fun e w' => e = .returned (.tuple #[.slice none 0 0, .int .i64 1]) ∧ w' = w := by
  go_enter Tryd.func41, Tryd.ntmps41
  go_wp2
  go_ret2
  exact ⟨rfl, rfl⟩

set_option maxRecDepth 100000 in
set_option maxHeartbeats 4000000 in
theorem refnew_bad (a : Option Addr) (len cap m : Nat) (g : Nat → Int) (f : Nat → Nat) (w : World) (hl : len ≤ 1024) (hf : ∀ i, f i ≤ 15) (hi : Ints w a len g) (hm : m < len) (hg : ∀ i, i < m → g i = (f i : Nat)) (hbad : g m < 0 ∨ 15 < g m) :
    Calls Tryd.prog 41 #[.slice a len cap] w fun e w' => e = .returned (.tuple #[.slice none 0 0, .int .i64 1]) ∧ w' = w := by
  have HF := hid hf
  have HI := hid hi
  have HG := hid hg
  have HB := hid hbad
  clear hf hi hg hbad
  go_enter Tryd.func41, Tryd.ntmps41
  go_wp2_with fail
  go_loop [4, 5, 6] (fun r u i => ∃ k : Nat, k ≤ m ∧ i = .int .i64 k ∧ r = .int .i64 (rm f k : Nat) ∧ u = .int .i64 (usedTo f k : Nat)) (fun _ _ i => m - (intOf i).toNat)
  case atStart => exact ⟨0, Nat.zero_le _, rfl, rfl, rfl⟩
  case round =>
    obtain ⟨k, hk, rfl, rfl, rfl⟩ := hrel
    have hrl := rm_le f k
    have hul := used_le f k
    have hkl : k < len := by omega
    rcases HI.out with h | ⟨b, o, ha, hb, hcell⟩
    · omega
    · subst ha
      by_cases hlt : k < m
      · have d0 : w.cell? ⟨b, o + k, none⟩ = some (.int .i64 (f k : Nat)) := by rw [hcell k hkl, HG.out k hlt]
        have hfk := HF.out k
        clear hcell
        by_cases h0 : f k = 0
        · rw [h0] at d0
          have H0 := hid h0
          clear h0 hfk
          go_wp2
          go_round
          case rel => exact ⟨k + 1, by omega, by go_num, by rw [rm, if_pos H0.out, Nat.add_zero], by rw [usedTo, if_pos H0.out, Nat.add_zero]⟩
          case measure => simp [intOf]; omega
        · have hst := hid (ref_step f k h0 (by omega))
          have hus : usedTo f (k + 1) = usedTo f k + 1 := by rw [usedTo, if_neg h0]
          have HUS := hid hus
          have hp : (0 : Int) < (f k : Int) := by omega
          have hs : (0 : Int) ≤ 15 - (f k : Int) := by omega
          have hn1 : ¬ (f k : Int) < 0 := by omega
          have hn2 : ¬ (15 : Int) < (f k : Int) := by omega
          clear hus h0
          go_wp2
          go_round
          case rel => exact ⟨k + 1, by omega, by go_num, by rw [hst.out], by rw [HUS.out]; go_num⟩
          case measure => simp [intOf]; omega
      · obtain rfl : k = m := by omega
        have d0 : w.cell? ⟨b, o + k, none⟩ = some (.int .i64 (g k)) := hcell k hkl
        clear hcell
        have hB := HB.out
        generalize g k = x at *
        by_cases hn : x < 0
        · go_wp2
          go_ret2
          exact ⟨rfl, rfl⟩
        · have hp : 15 < x := by omega
          go_wp2
          go_ret2
          exact ⟨rfl, rfl⟩

end Go.Proofs.YtohcngiiijokkaaDoor
