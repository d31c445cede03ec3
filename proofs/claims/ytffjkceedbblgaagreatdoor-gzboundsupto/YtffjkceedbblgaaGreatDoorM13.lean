/- Texts of this proof, one behind the other: what each says stands ahead of it. -/
import Derived.Test.YtffjkceedbblgaaGreatDoorM10
import Derived.Test.YtffjkceedbblgaaGreatDoorM12
import Derived.BigQuiet
import Derived.Test.YtffjkceedbblgaaGreatDoorM2
import Derived.Test.YtffjkceedbblgaaGreatDoorM1
import Derived.Test.YtffjkceedbblgaaGreatDoorM4
/- New where the lengths make a table. -/
namespace Go.Proofs.YtffjkceedbblgaaGreatDoor
open Go.RowKit

theorem tab_new (w : World) (cv : Value) : Tab (w.alloc (.cells #[cv, .slice none 0 0] 155)) w.heap.size cv ⟨fun _ => 0, fun _ => 0, fun _ => 0⟩ 0 ∧ ∀ j, TFp (w.alloc (.cells #[cv, .slice none 0 0] 155)) w.heap.size j → j = w.heap.size := by
  have hb : (w.alloc (.cells #[cv, .slice none 0 0] 155)).heap[w.heap.size]? = some (.cells #[cv, .slice none 0 0] 155 (0, 0)) := by
    show (w.heap.push _)[_]? = _
    simp
  refine ⟨⟨_, hb, World.ownsRow_nil _ _ _ _⟩, ?_⟩
  rintro j (h | ⟨c, v, h, ho⟩)
  · exact h
  · rw [hb] at h
    simp at h
    obtain ⟨rfl, rfl⟩ := h
    simp [Value.ownBlock] at ho

theorem Ints.beside {S : Nat → Prop} {w w' : World} {a : Option Addr} {len : Nat} {f : Nat → Int} (h : Ints w a len f) (t : Touch S w w') (hs : ∀ b o, a = some ⟨b, o, none⟩ → b < w.heap.size → ¬ S b) : Ints w' a len f := by
  rcases h with h | ⟨b, o, rfl, hb, hc⟩
  · exact .inl h
  · exact .inr ⟨b, o, rfl, Nat.lt_of_lt_of_le hb t.size, fun i hi => by rw [t.cell (p := ⟨b, o + i, none⟩) hb (hs b o rfl hb)]; exact hc i hi⟩

theorem sym_part {laid laid' : Nat → Prop} {f path : Nat → Nat} (h : Tb.Sym laid f path) (e : ∀ i, laid' i → laid i) : Tb.Sym laid' f path :=
  ⟨fun i hi => h.len i (e i hi), fun i hi => h.lt i (e i hi), fun i j hi hj => h.apart i j (e i hi) (e j hj)⟩

set_option maxRecDepth 100000 in
set_option maxHeartbeats 4000000 in
theorem new_ok (a : Option Addr) (len cap : Nat) (f : Nat → Nat) (w : World) (hl : len ≤ 1024) (hf : ∀ i, f i ≤ 15) (hi : Ints w a len (fun i => (f i : Nat))) (he : errOf f len = 0) :
    Calls Tryz.prog 56 #[.slice a len cap] w fun e w' => ∃ b, e = .returned (.tuple #[.pointer (some ⟨b, 0, none⟩), .int .i64 0]) ∧ TblIn w' b f len w.heap.size w'.heap.size ∧ Touch (fun _ => False) w w' := by
  have HF := hid hf
  have HI := hid hi
  have HE := hid he
  clear hf hi he
  go_enter Tryz.func56, Tryz.ntmps56
  go_wp2_with fail
  go_loopw [16] (fun i wr => ∃ k : Nat, k ≤ len ∧ i = .int .i64 k ∧ Blk wr w.heap.size (cnts f k) ∧ Touch (fun _ => False) w wr) (fun i _ => len - (intOf i).toNat)
  case atStart => exact ⟨0, Nat.zero_le _, rfl, blk_zero w, (Touch.refl _ w).alloc _⟩
  case round =>
    obtain ⟨k, hk, rfl, hb1, ht⟩ := hrel
    have Z := hid hb1
    have TT := hid ht
    clear hb1 ht
    by_cases hlt : k < len
    · rcases (HI.out.new TT.out) with h | ⟨b, o, ha, hb, hcell⟩
      · omega
      · subst ha
        have d0 : wr.cell? ⟨b, o + k, none⟩ = some (.int .i64 (f k : Nat)) := hcell k hlt
        have hfk := HF.out k
        have d1 := Z.out.cell (f k) (by omega)
        have d2 := Z.out.free (f k)
        have hcn : cnts f k (f k) ≤ 1024 := by have := cntTo_le f (f k) k; unfold cnts; omega
        have hst := hid ((Z.out.set (f k) (cnts f k (f k) + 1)).ext (fun j _ => cnts_step f k j))
        generalize cnts f k (f k) = x at *
        clear hcell
        go_wp2
        go_roundw
        case rel => exact ⟨k + 1, by omega, by go_num, by have := hst.out; simpa using this, TT.out.setCell (fun h => by simp at h) _⟩
        case measure => simp [intOf]; omega
    · obtain rfl : k = len := by omega
      have d2 := Z.out.free 0
      have c0 := Z.out.cell 0 (by decide)
      have c1 := Z.out.cell 1 (by decide)
      have c2 := Z.out.cell 2 (by decide)
      have c3 := Z.out.cell 3 (by decide)
      have c4 := Z.out.cell 4 (by decide)
      have c5 := Z.out.cell 5 (by decide)
      have c6 := Z.out.cell 6 (by decide)
      have c7 := Z.out.cell 7 (by decide)
      have c8 := Z.out.cell 8 (by decide)
      have c9 := Z.out.cell 9 (by decide)
      have c10 := Z.out.cell 10 (by decide)
      have c11 := Z.out.cell 11 (by decide)
      have c12 := Z.out.cell 12 (by decide)
      have c13 := Z.out.cell 13 (by decide)
      have c14 := Z.out.cell 14 (by decide)
      have c15 := Z.out.cell 15 (by decide)
      have hst := hid ((Z.out.set 0 0).ext (fun j _ => cnts_cOf f k j))
      have hnx : ¬ (k : Int) < (k : Int) := by omega
      have hA : cArr (cOf f k) = #[.int .i64 0, .int .i64 (cnts f k 1 : Nat), .int .i64 (cnts f k 2 : Nat), .int .i64 (cnts f k 3 : Nat), .int .i64 (cnts f k 4 : Nat), .int .i64 (cnts f k 5 : Nat), .int .i64 (cnts f k 6 : Nat), .int .i64 (cnts f k 7 : Nat), .int .i64 (cnts f k 8 : Nat), .int .i64 (cnts f k 9 : Nat), .int .i64 (cnts f k 10 : Nat), .int .i64 (cnts f k 11 : Nat), .int .i64 (cnts f k 12 : Nat), .int .i64 (cnts f k 13 : Nat), .int .i64 (cnts f k 14 : Nat), .int .i64 (cnts f k 15 : Nat)] := by simp [cArr, cOf, cnts]
      have HA := hid hA
      clear hA
      go_wp2_with fail
      rw [← HA.out]
      refine (room_any (cOf f k) _ (fun i => by have := cOf_le f k i; omega)).mono ?_
      rintro e w1 ⟨rfl, ht⟩
      rw [err_eq f HF.out k]
      rw [HE.out]
      have T1 := hid ((TT.out.setCell (p := ⟨w.heap.size, 0, none⟩) (fun h => by simp at h) (.int .i64 0)).trans ht (fun _ _ e => e))
      have C1 := hid (show Blk w1 w.heap.size (cOf f k) from hst.out.same (ht.block _ (by simpa using hst.out.lt) id))
      clear ht c0 c1 c2 c3 c4 c5 c6 c7 c8 c9 c10 c11 c12 c13 c14 c15 d2
      have c0 := C1.out.cell 0 (by decide)
      have c1 := C1.out.cell 1 (by decide)
      have c2 := C1.out.cell 2 (by decide)
      have c3 := C1.out.cell 3 (by decide)
      have c4 := C1.out.cell 4 (by decide)
      have c5 := C1.out.cell 5 (by decide)
      have c6 := C1.out.cell 6 (by decide)
      have c7 := C1.out.cell 7 (by decide)
      have c8 := C1.out.cell 8 (by decide)
      have c9 := C1.out.cell 9 (by decide)
      have c10 := C1.out.cell 10 (by decide)
      have c11 := C1.out.cell 11 (by decide)
      have c12 := C1.out.cell 12 (by decide)
      have c13 := C1.out.cell 13 (by decide)
      have c14 := C1.out.cell 14 (by decide)
      have c15 := C1.out.cell 15 (by decide)
      have hA2 : cArr (cOf f k) = #[.int .i64 (cOf f k 0 : Nat), .int .i64 (cOf f k 1 : Nat), .int .i64 (cOf f k 2 : Nat), .int .i64 (cOf f k 3 : Nat), .int .i64 (cOf f k 4 : Nat), .int .i64 (cOf f k 5 : Nat), .int .i64 (cOf f k 6 : Nat), .int .i64 (cOf f k 7 : Nat), .int .i64 (cOf f k 8 : Nat), .int .i64 (cOf f k 9 : Nat), .int .i64 (cOf f k 10 : Nat), .int .i64 (cOf f k 11 : Nat), .int .i64 (cOf f k 12 : Nat), .int .i64 (cOf f k 13 : Nat), .int .i64 (cOf f k 14 : Nat), .int .i64 (cOf f k 15 : Nat)] := rfl
      have HA2 := hid hA2
      clear hA2
      generalize hAA : cArr (cOf f k) = A
      have HAA := hid hAA
      clear hAA
      go_wp2_with fail
      rw [← HA2.out]
      have hI := HI.out.new T1.out
      refine (codes_any a k cap f (cOf f k) w1 hl HF.out (fun i => by have := cOf_le f k i; omega) hI).mono ?_
      rintro e w2 ⟨g, rfl, ho, ht⟩
      have O2 := hid ho
      have T2 := hid ht
      clear ho ht hI HA2 c0 c1 c2 c3 c4 c5 c6 c7 c8 c9 c10 c11 c12 c13 c14 c15
      generalize cArr (cOf f k) = B
      go_wp2_with fail
      obtain ⟨cf, hcf⟩ : ∃ cf, cf = codeOf (cOf f k) f := ⟨_, rfl⟩
      have hglt := O2.out.lt g rfl
      have hN := tab_new w2 (.slice (some ⟨g, 0, none⟩) k k)
      have tA : Touch (fun _ => False) w (w2.alloc (.cells #[.slice (some ⟨g, 0, none⟩) k k, .slice none 0 0] 155)) := (T1.out.trans T2.out (fun _ _ e => e)).alloc _
      have iC : Ints (w2.alloc (.cells #[.slice (some ⟨g, 0, none⟩) k k, .slice none 0 0] 155)) (some ⟨g, 0, none⟩) k (fun i => (cf i : Nat)) := by
        rw [hcf]
        have o2 := O2.out
        rw [natsV, List.map_map] at o2
        exact (own_ints o2).new ((Touch.refl _ w2).alloc _)
      have hsW : (w2.alloc (.cells #[.slice (some ⟨g, 0, none⟩) k k, .slice none 0 0] 155)).heap.size = w2.heap.size + 1 := by simp
      have hw1 := T1.out.size
      have hw2 := T2.out.size
      generalize w2.alloc (.cells #[.slice (some ⟨g, 0, none⟩) k k, .slice none 0 0] 155) = W0 at *
      clear O2 T1 T2 C1 HA HAA hst
      generalize w2.heap.size = bt at *
      have ng : ¬ TFp W0 bt g := fun e => by have := hN.2 g e; omega
      have HN := hid hN
      have TA := hid tA
      have IC := hid iC
      have NG := hid ng
      have HCF := hid hcf
      clear hN tA iC ng hcf
      go_loopw [45] (fun i wr => ∃ (n : Nat) (C : Tb.Cells) (sz : Nat), n ≤ k ∧ i = .int .i64 (n : Nat) ∧ TStep W0 wr bt (.slice (some ⟨g, 0, none⟩) k k) C sz ∧ Good C sz (fun j => j < n ∧ f j ≠ 0) f (pathOf f k) ∧ sz ≤ 96 * n) (fun i _ => k - (intOf i).toNat)
      case atStart => exact ⟨0, _, 0, Nat.zero_le _, rfl, TStep.refl HN.out.1, .inl ⟨rfl, fun i h => by omega⟩, by omega⟩
      case round =>
        obtain ⟨n, C, sz, hn, rfl, hst, hgood, hsz⟩ := hrel
        have ST := hid hst
        have HG := hid hgood
        clear hst hgood
        have tW : Touch (fun _ => False) w wr := TA.out.trans ST.out.touch (fun i hi e => by have := HN.out.2 i e; omega)
        by_cases hlt : n < k
        · rcases HI.out.new tW with h | ⟨b', o', ha, hb', hcell⟩
          · omega
          · subst ha
            have d0 : wr.cell? ⟨b', o' + n, none⟩ = some (.int .i64 (f n : Nat)) := hcell n hlt
            clear hcell tW
            by_cases hf0 : f n = 0
            · rw [hf0] at d0
              have HG2 := hid (HG.out.same (laid' := fun j => j < n + 1 ∧ f j ≠ 0) (fun i => ⟨fun h => ⟨by omega, h.2⟩, fun h => ⟨by rcases Nat.lt_or_ge i n with g | g; exact g; exact absurd (by rw [show i = n by omega]; exact hf0) h.2, h.2⟩⟩))
              go_wp2_with fail
              go_roundw
              case rel => exact ⟨n + 1, C, sz, by omega, by go_num, ST.out, HG2.out, by omega⟩
              case measure => simp [intOf]; omega
            · have hpos : (0 : Int) < ((f n : Nat) : Int) := by omega
              have hfn := HF.out n
              have ngr : ¬ TFp wr bt g := fun e => (ST.out.fp g e).elim NG.out (fun h => by omega)
              have icr := IC.out.beside ST.out.touch (fun b o e _ => by simp at e; rw [← e.1]; exact NG.out)
              have hsym := sym_part (laid' := fun i => (i < n ∧ f i ≠ 0) ∨ i = n) (sym_of f HF.out k (err_ok HE.out).1) (fun i h => h.elim (fun h => ⟨by omega, h.2⟩) (fun h => by subst h; exact ⟨hlt, hf0⟩))
              have hlay := lay_any bt sz g k n n C f cf (pathOf f k) (fun j => j < n ∧ f j ≠ 0) wr ST.out.tab icr ngr hlt (by omega) hsz HG.out (fun h => by omega) hsym (by rw [HCF.out]; rfl)
              have HL := hid hlay
              clear hlay hsym icr ngr
              go_wp2_with fail
              refine HL.out.mono ?_
              rintro e w3 ⟨rfl, C', sz', hst', hgood', hsz'⟩
              have ST2 := hid (ST.out.trans hst')
              have HG2 := hid (hgood'.same (laid' := fun j => j < n + 1 ∧ f j ≠ 0) (fun i => ⟨fun h => h.elim (fun h => ⟨by omega, h.2⟩) (fun h => by subst h; exact ⟨by omega, hf0⟩), fun h => by
                rcases Nat.lt_or_ge i n with g | g
                · exact .inl ⟨g, h.2⟩
                · exact .inr (by omega)⟩))
              clear hst' hgood' HL
              go_wp2_with fail
              go_roundw
              case rel => exact ⟨n + 1, C', sz', by omega, by go_num, ST2.out, HG2.out, hsz'⟩
              case measure => simp [intOf]; omega
        · obtain rfl : n = k := by omega
          have TW := hid tW
          clear tW
          go_wp2_with fail
          go_ret2
          have icr := IC.out.beside ST.out.touch (fun b o e _ => by simp at e; rw [← e.1]; exact NG.out)
          rw [HCF.out] at icr
          refine ⟨bt, rfl, ⟨g, C, sz, ST.out.tab, icr, HG.out, by omega, ?_⟩, TW.out⟩
          have hs0 := ST.out.touch.size
          rintro j (h | rfl)
          · refine ⟨?_, ST.out.tab.fp_lt h⟩
            rcases ST.out.fp j h with h | h
            · have := HN.out.2 j h
              omega
            · omega
          · omega
end Go.Proofs.YtffjkceedbblgaaGreatDoor

/- Two lists held against each other. -/
namespace Go.Proofs.YtffjkceedbblgaaGreatDoor
open Go.RowKit

end Go.Proofs.YtffjkceedbblgaaGreatDoor

/- speaks of layer 2: four symbols. -/
namespace Go.Proofs.YtffjkceedbblgaaGreatDoor
open Go.RowKit

theorem ret_bool {a b : Bool} (h : a = b) : Ending.returned (.bool a) = .returned (.bool b) := by rw [h]

def sf (i : Nat) : Nat := [2, 1, 3, 3].getD i 0

theorem sf_err : errOf sf 4 = 0 := by decide
theorem sf_le (i : Nat) : sf i ≤ 15 := by
  unfold sf
  rcases i with _ | _ | _ | _ | i <;> simp
theorem sf_ints (w : World) : Ints (w.alloc (.cells #[.int .i64 2, .int .i64 1, .int .i64 3, .int .i64 3] 3)) (some ⟨w.heap.size, 0, none⟩) 4 (fun i => (sf i : Nat)) := by
  refine .inr ⟨w.heap.size, 0, rfl, by simp, fun i hi => ?_⟩
  have hb : (w.alloc (.cells #[.int .i64 2, .int .i64 1, .int .i64 3, .int .i64 3] 3)).heap[w.heap.size]? = some (.cells #[.int .i64 2, .int .i64 1, .int .i64 3, .int .i64 3] 3) := by
    show (w.heap.push _)[_]? = _
    simp
  rcases i with _ | _ | _ | _ | i
  · simp only [World.cell?, hb]; rfl
  · simp only [World.cell?, hb]; rfl
  · simp only [World.cell?, hb]; rfl
  · simp only [World.cell?, hb]; rfl
  · omega

def s3 : ByteArray := ⟨#[3]⟩

theorem sf_next {r : Nat} {w w' : World} {e : Ending} (h : Answer (Laid sf 4) sf (pathOf sf 4) (Bt.rval s3 0 (min 15 (8 * s3.size - 0))) s3 0 r w e w') :
    e = .returned (.tuple #[.int .i64 2, .int .i64 0]) ∧ RStep w w' r s3 3 := by
  have hp : Bt.rval s3 0 (min 15 (8 * s3.size - 0)) = 3 := by decide +kernel
  rw [hp] at h
  have one : ∀ i, Laid sf 4 i → 3 % 2 ^ sf i = pathOf sf 4 i → i = 2 := by
    rintro i ⟨hi, _⟩ e
    have : i = 0 ∨ i = 1 ∨ i = 2 ∨ i = 3 := by omega
    rcases this with rfl | rfl | rfl | rfl
    · exact absurd e (by decide +kernel)
    · exact absurd e (by decide +kernel)
    · rfl
    · exact absurd e (by decide +kernel)
  rcases h with ⟨i, h1, h2, h3, h4, h5⟩ | ⟨i, h1, h2, h3, h4, h5⟩ | ⟨h1, h2, h3⟩
  · obtain rfl := one i h1 h2
    exact ⟨h4, h5⟩
  · obtain rfl := one i h1 h2
    exact absurd h3 (by decide +kernel)
  · exact absurd (h1 2 ⟨by decide, by decide⟩) (by decide +kernel)

end Go.Proofs.YtffjkceedbblgaaGreatDoor

/- The document's answer: the codes of lengths, or what is wrong with them; conditions: at most 1024 lengths. -/
namespace Go.Proofs.YtffjkceedbblgaaGreatDoor
open Go.RowKit

theorem ref_step (f : Nat → Nat) (k : Nat) (h0 : f k ≠ 0) (hk : k ≤ 1024) : wrap64 ((rm f k : Int) + wrap64 (2 ^ (15 - f k))) = ((rm f (k + 1) : Nat) : Int) := by
  have h1 := rm_le f k
  have h2 : 2 ^ (15 - f k) ≤ 2 ^ 15 := Nat.pow_le_pow_right (by decide) (by omega)
  have e : (2 : Int) ^ (15 - f k) = ((2 ^ (15 - f k) : Nat) : Int) := by simp
  rw [e, rm, if_neg h0]
  generalize 2 ^ (15 - f k) = p at *
  unfold wrap64
  omega

theorem ret_sl {v : Value} {a b : Int} (h : a = b) : Ending.returned (.tuple #[v, .int .i64 a]) = .returned (.tuple #[v, .int .i64 b]) := by rw [h]

end Go.Proofs.YtffjkceedbblgaaGreatDoor

/- The document's answer: the codes of lengths, or what is wrong with them; conditions: at most 1024 lengths. -/
namespace Go.Proofs.YtffjkceedbblgaaGreatDoor
open Go.RowKit

theorem rc_used_zero (f : Nat → Nat) : ∀ k, usedTo f k = 0 → rm f k = 0
  | 0, _ => rfl
  | k + 1, h => by
    rw [usedTo] at h
    have h1 := rc_used_zero f k (by omega)
    by_cases e : f k = 0
    · rw [rm, h1, if_pos e]
    · rw [if_neg e] at h; omega

/-- The codes given so far: of lengths below n, and of length n below s. -/
def refTo (c f : Nat → Nat) (len n s : Nat) : List Nat := (List.range len).map fun i => if 0 < f i ∧ (f i < n ∨ (f i = n ∧ i < s)) then codeOf c f i else 0

theorem refTo_zero (c f : Nat → Nat) (len : Nat) : natsV (refTo c f len 1 0) = List.replicate len (.int .i64 0) := by
  apply List.ext_getElem
  · simp [natsV, refTo]
  · intro i h1 h2
    simp only [natsV, refTo, List.map_map, List.getElem_map, List.getElem_range, Function.comp_def, List.getElem_replicate]
    rw [if_neg (by omega)]
    rfl
theorem refTo_all (c f : Nat → Nat) (hf : ∀ i, f i ≤ 15) (len : Nat) : refTo c f len 16 0 = (List.range len).map (codeOf c f) := by
  apply List.map_congr_left
  intro i _
  have := hf i
  by_cases e : 0 < f i
  · rw [if_pos ⟨e, by omega⟩]
  · rw [if_neg (by omega), codeOf, if_pos (by omega)]
theorem refTo_next (c f : Nat → Nat) (len n : Nat) : refTo c f len n len = refTo c f len (n + 1) 0 := by
  apply List.map_congr_left
  intro i hi
  have hi' : i < len := by simpa using hi
  by_cases e : 0 < f i ∧ f i < n + 1
  · rw [if_pos (by omega), if_pos (by omega)]
  · rw [if_neg (by omega), if_neg (by omega)]
theorem refTo_skip (c f : Nat → Nat) (len n s : Nat) (h : f s ≠ n) : refTo c f len n (s + 1) = refTo c f len n s := by
  apply List.map_congr_left
  intro i _
  by_cases e : i = s
  · subst e
    by_cases e2 : 0 < f i ∧ f i < n
    · rw [if_pos (by omega), if_pos (by omega)]
    · rw [if_neg (by omega), if_neg (by omega)]
  · by_cases e2 : 0 < f i ∧ (f i < n ∨ (f i = n ∧ i < s))
    · rw [if_pos (by omega), if_pos e2]
    · rw [if_neg (by omega), if_neg e2]
theorem refTo_set (c f : Nat → Nat) (len n s : Nat) (h : f s = n) (hn : 0 < n) : refTo c f len n (s + 1) = (refTo c f len n s).set s (codeOf c f s) := by
  apply List.ext_getElem
  · simp [refTo]
  · intro i h1 h2
    simp only [refTo, List.getElem_map, List.getElem_range, List.getElem_set]
    by_cases e : s = i
    · subst e
      rw [if_pos (by omega), if_pos rfl]
    · rw [if_neg e]
      by_cases e2 : 0 < f i ∧ (f i < n ∨ (f i = n ∧ i < s))
      · rw [if_pos (by omega), if_pos e2]
      · rw [if_neg (by omega), if_neg e2]
theorem length_refTo (c f : Nat → Nat) (len n s : Nat) : (refTo c f len n s).length = len := by simp [refTo]

theorem Nx.bound {c f : Nat → Nat} {n s code last : Nat} (h : Nx c f n s code last) (hc : ∀ i, c i ≤ 1024) (hn : n ≤ 15) (hs : s ≤ 1024) : code + 1 ≤ 67200000 ∧ (if last = 0 then 0 else (code + 1) * 2 ^ (n - last)) ≤ 67200000 := by
  obtain ⟨h1, h2, h3⟩ := h
  have a1 := firsts_le c hc n
  have a2 := cntTo_le f n s
  have a3 : 2 ^ n ≤ 2 ^ 15 := Nat.pow_le_pow_right (by decide) hn
  by_cases e : last = 0
  · rw [if_pos e, h2 e]; omega
  · rw [if_neg e] at h3 ⊢
    have a4 : 0 < 2 ^ (n - last) := Nat.pow_pos (by decide)
    have a5 : (code + 1) * 1 ≤ (code + 1) * 2 ^ (n - last) := Nat.mul_le_mul_left _ a4
    omega

end Go.Proofs.YtffjkceedbblgaaGreatDoor

/- New and the document's New of any list: what both answer; conditions: the list fits into memory. -/
namespace Go.Proofs.YtffjkceedbblgaaGreatDoor
open Go.RowKit

def okLens (g : Nat → Int) (len : Nat) : Prop := ∀ i, i < len → 0 ≤ g i ∧ g i ≤ 15
def fl (g : Nat → Int) (len i : Nat) : Nat := if i < len then min (g i).toNat 15 else 0

theorem fl_le (g : Nat → Int) (len i : Nat) : fl g len i ≤ 15 := by
  unfold fl
  split <;> omega
theorem fl_eq {g : Nat → Int} {len : Nat} (h : okLens g len) {i : Nat} (hi : i < len) : g i = ((fl g len i : Nat) : Int) := by
  have := h i hi
  unfold fl
  rw [if_pos hi]
  omega
theorem Ints.ext {w : World} {a : Option Addr} {len : Nat} {f g : Nat → Int} (h : Ints w a len f) (e : ∀ i, i < len → f i = g i) : Ints w a len g := by
  rcases h with h | ⟨b, o, rfl, hb, hc⟩
  · exact .inl h
  · exact .inr ⟨b, o, rfl, hb, fun i hi => by rw [← e i hi]; exact hc i hi⟩

/-- What is wrong with lengths: 1 an argument that is none, else as layer 2 says; 0: nothing. -/
def Verd (g : Nat → Int) (len c : Nat) : Prop :=
  (len ≤ 1024 ∧ okLens g len ∧ c = errOf (fl g len) len) ∨ (¬ (len ≤ 1024 ∧ okLens g len) ∧ c = 1)

theorem Verd.same {g : Nat → Int} {len c d : Nat} (h : Verd g len c) (k : Verd g len d) : c = d := by
  rcases h with ⟨h1, h2, h3⟩ | ⟨h1, h2⟩
  · rcases k with ⟨_, _, k3⟩ | ⟨k1, _⟩
    · rw [h3, k3]
    · exact absurd ⟨h1, h2⟩ k1
  · rcases k with ⟨k1, k2, _⟩ | ⟨_, k2⟩
    · exact absurd ⟨k1, k2⟩ h1
    · rw [h2, k2]

theorem verd_le {g : Nat → Int} {len c : Nat} (h : Verd g len c) : c ≤ 7 := by
  rcases h with ⟨_, _, rfl⟩ | ⟨_, rfl⟩
  · unfold errOf
    split
    · omega
    · split <;> omega
  · omega

theorem first_bad (g : Nat → Int) : ∀ len, ¬ okLens g len → ∃ m, m < len ∧ (g m < 0 ∨ 15 < g m) ∧ okLens g m
  | 0, h => absurd (fun i hi => by omega) h
  | n + 1, h => by
    by_cases hn : okLens g n
    · refine ⟨n, by omega, ?_, hn⟩
      rcases Int.lt_or_le (g n) 0 with h0 | h0
      · exact .inl h0
      · rcases Int.lt_or_le 15 (g n) with h1 | h1
        · exact .inr h1
        · refine absurd (fun i hi => ?_) h
          rcases Nat.lt_or_ge i n with k | k
          · exact hn i k
          · obtain rfl : i = n := by omega
            exact ⟨h0, h1⟩
    · obtain ⟨m, h1, h2, h3⟩ := first_bad g n hn
      exact ⟨m, by omega, h2, h3⟩

theorem new_all (a : Option Addr) (len cap : Nat) (g : Nat → Int) (w : World) (hl : len ≤ 140737488351232) (hi : Ints w a len g) :
    Calls Tryz.prog 56 #[.slice a len cap] w fun e w' => ∃ c, Verd g len c ∧ Touch (fun _ => False) w w' ∧
      ((c ≠ 0 ∧ e = .returned (.tuple #[.pointer none, .int .i64 (c : Nat)])) ∨ (c = 0 ∧ ∃ b, e = .returned (.tuple #[.pointer (some ⟨b, 0, none⟩), .int .i64 0]) ∧ TblIn w' b (fl g len) len w.heap.size w'.heap.size)) := by
  rcases Nat.lt_or_ge 1024 len with hbig | hsm
  · refine (new_big a len cap w hbig hl).mono ?_
    rintro e w' ⟨rfl, rfl⟩
    exact ⟨1, .inr ⟨fun h => by omega, rfl⟩, Touch.refl _ _, .inl ⟨by decide, rfl⟩⟩
  · by_cases hok : okLens g len
    · have hi' : Ints w a len (fun i => ((fl g len i : Nat) : Int)) := hi.ext (fun i h => fl_eq hok h)
      by_cases he : errOf (fl g len) len = 0
      · refine (new_ok a len cap (fl g len) w hsm (fl_le g len) hi' he).mono ?_
        rintro e w' ⟨b, rfl, hT, ht⟩
        exact ⟨0, .inl ⟨hsm, hok, he.symm⟩, ht, .inr ⟨rfl, b, rfl, hT⟩⟩
      · refine (new_err a len cap (fl g len) w hsm (fl_le g len) hi' he).mono ?_
        rintro e w' ⟨rfl, ht⟩
        exact ⟨_, .inl ⟨hsm, hok, rfl⟩, ht, .inl ⟨he, rfl⟩⟩
    · obtain ⟨m, h1, h2, h3⟩ := first_bad g len hok
      refine (new_bad a len cap m g (fl g m) w hsm (fl_le g m) hi h1 (fun i h => fl_eq h3 h) h2).mono ?_
      rintro e w' ⟨rfl, ht⟩
      exact ⟨1, .inr ⟨fun h => hok h.2, rfl⟩, ht, .inl ⟨by decide, rfl⟩⟩

end Go.Proofs.YtffjkceedbblgaaGreatDoor
