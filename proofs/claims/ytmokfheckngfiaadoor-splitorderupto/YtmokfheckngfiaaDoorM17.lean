/- Texts of this proof, one behind the other: what each says stands ahead of it. -/
import Derived.Test.YtmokfheckngfiaaDoorM16
import Derived.Test.YtmokfheckngfiaaDoorM1
import Derived.Test.YtmokfheckngfiaaDoorM6
import Derived.Test.YtmokfheckngfiaaDoorM7
import Derived.Deep.RegionLaw
import Derived.Test.YtmokfheckngfiaaDoorM13
import Derived.Test.YtmokfheckngfiaaDoorM15
import Derived.Test.YtmokfheckngfiaaDoorM11
/- What SplitOrder is made of; conditions: those told. -/
namespace Go.Proofs.YtmokfheckngfiaaDoor
open Go.RowKit
open Go.Lib

theorem u8_lt {a b : Int} (ha : 0 ≤ a ∧ a ≤ 255) (hb : 0 ≤ b ∧ b ≤ 255) : UInt8.ofNat a.toNat < UInt8.ofNat b.toNat ↔ a < b := by
  rw [UInt8.lt_iff_toNat_lt, UInt8.toNat_ofNat', UInt8.toNat_ofNat', Nat.mod_eq_of_lt (by omega), Nat.mod_eq_of_lt (by omega)]
  omega
theorem u8_eq {a b : Int} (ha : 0 ≤ a ∧ a ≤ 255) (hb : 0 ≤ b ∧ b ≤ 255) : UInt8.ofNat a.toNat = UInt8.ofNat b.toNat ↔ a = b := by
  rw [← UInt8.toNat_inj, UInt8.toNat_ofNat', UInt8.toNat_ofNat', Nat.mod_eq_of_lt (by omega), Nat.mod_eq_of_lt (by omega)]
  omega
theorem less_no : ∀ (l m : List Int), lxLt l m → (∀ b ∈ l, 0 ≤ b ∧ b ≤ 255) → (∀ b ∈ m, 0 ≤ b ∧ b ≤ 255) → Op.bytesLess (m.map fun n => UInt8.ofNat n.toNat) (l.map fun n => UInt8.ofNat n.toNat) = false ∧ ((m.map fun n => UInt8.ofNat n.toNat) == (l.map fun n => UInt8.ofNat n.toNat)) = false
  | [], [], h, _, _ => h.elim
  | _ :: _, [], h, _, _ => h.elim
  | [], _ :: _, _, _, _ => ⟨rfl, rfl⟩
  | a :: x, b :: y, h, hl, hm => by
    have ha := hl a (List.mem_cons_self ..)
    have hb := hm b (List.mem_cons_self ..)
    rw [List.map_cons, List.map_cons, Op.bytesLess]
    rcases h with h | ⟨rfl, h⟩
    · have h1 : ¬ (UInt8.ofNat b.toNat < UInt8.ofNat a.toNat) := fun e => by have := (u8_lt hb ha).1 e; omega
      have h2 : ¬ (UInt8.ofNat b.toNat = UInt8.ofNat a.toNat) := fun e => by have := (u8_eq hb ha).1 e; omega
      constructor
      · simp [h1, h2]
      · simp [h2]
    · obtain ⟨i1, i2⟩ := less_no x y h (fun c hc => hl c (List.mem_cons_of_mem _ hc)) (fun c hc => hm c (List.mem_cons_of_mem _ hc))
      have h1 : ¬ (UInt8.ofNat a.toNat < UInt8.ofNat a.toNat) := fun e => by have := (u8_lt hb ha).1 e; omega
      constructor
      · rw [i1]
        simp [h1]
      · rw [List.cons_beq_cons, i2, Bool.and_false]
theorem str_less {l m : List Int} (h : lxLt l m) (hl : ∀ b ∈ l, 0 ≤ b ∧ b ≤ 255) (hm : ∀ b ∈ m, 0 ≤ b ∧ b ≤ 255) : Op.bytesLess (strOfNums m).toList (strOfNums l).toList = false ∧ ((strOfNums m).toList == (strOfNums l).toList) = false := by
  rw [Lib.toList_data, Lib.toList_data]
  have e : ∀ k : List Int, (strOfNums k).data.toList = k.map fun n => UInt8.ofNat n.toNat := fun k => by unfold strOfNums; simp
  rw [e, e]
  exact less_no l m h hl hm
attribute [local irreducible] en8 zOf fitL
/-- A row's ranges are bytes, their beginnings the first text, their ends the last one. -/
theorem row_facts {p : Nat × Nat} (hc : ∃ k, Cls k p.1 p.2) (hf : fitL (zOf p) (en8 (p.1 : Int))) : (∀ r ∈ zOf p, 0 ≤ r.1 ∧ r.1 ≤ r.2 ∧ r.2 ≤ 255) ∧ (zOf p).map Prod.fst = en8 (p.1 : Int) ∧ (zOf p).map Prod.snd = en8 (p.2 : Int) := by
  obtain ⟨k, hc⟩ := hc
  have hlen := hc.len
  have h1 : (zOf p).map Prod.fst = en8 (p.1 : Int) := by unfold zOf; exact List.map_fst_zip (Nat.le_of_eq hlen)
  have h2 : (zOf p).map Prod.snd = en8 (p.2 : Int) := by unfold zOf; exact List.map_snd_zip (Nat.le_of_eq hlen.symm)
  refine ⟨fun r hr => ?_, h1, h2⟩
  have a1 := en8_in (p.1 : Int) hc.okf r.1 (by rw [← h1]; exact List.mem_map_of_mem hr)
  have a2 := en8_in (p.2 : Int) hc.okt r.2 (by rw [← h2]; exact List.mem_map_of_mem hr)
  obtain ⟨i, hi, rfl⟩ := List.getElem_of_mem hr
  obtain ⟨g1, g2⟩ := (fitL_at _ _).1 hf
  have := g2 i hi (by omega)
  omega
theorem szL_append (z z' : List S.R2) : ∀ n, szL (z ++ z') n = szL z' (szL z n) := by
  induction z with
  | nil => intro n; rfl
  | cons r z ih => intro n; rw [List.cons_append, szL, szL, ih]
theorem szL_step {z : List S.R2} {k : Nat} (h : k < z.length) (n : Int) : szL (z.take (k + 1)) n = szL (z.take k) n * ((z[k]).2 - (z[k]).1 + 1) := by
  rw [List.take_succ_eq_append_getElem h, szL_append]
  rfl
theorem szL_bound : ∀ (z : List S.R2), (∀ r ∈ z, 0 ≤ r.1 ∧ r.1 ≤ r.2 ∧ r.2 ≤ 255) → ∀ n : Int, 0 ≤ n → 0 ≤ szL z n ∧ szL z n ≤ n * 256 ^ z.length
  | [], _, n, hn => by
    unfold szL
    simp
    omega
  | r :: z, h, n, hn => by
    have hr := h r (List.mem_cons_self ..)
    have h0 : 0 ≤ n * (r.2 - r.1 + 1) := Int.mul_nonneg hn (by omega)
    obtain ⟨i1, i2⟩ := szL_bound z (fun q hq => h q (List.mem_cons_of_mem _ hq)) _ h0
    unfold szL
    refine ⟨i1, Int.le_trans i2 ?_⟩
    rw [List.length_cons, Int.pow_succ, Int.mul_comm (256 ^ z.length) 256, ← Int.mul_assoc]
    refine Int.mul_le_mul_of_nonneg_right (Int.mul_le_mul_of_nonneg_left (by omega) hn) ?_
    exact Int.pow_nonneg (by decide)
theorem szL_small {z : List S.R2} (h : ∀ r ∈ z, 0 ≤ r.1 ∧ r.1 ≤ r.2 ∧ r.2 ≤ 255) (hz : z.length ≤ 4) : 0 ≤ szL z 1 ∧ szL z 1 ≤ 4294967296 := by
  obtain ⟨h1, h2⟩ := szL_bound z h 1 (by decide)
  refine ⟨h1, Int.le_trans h2 ?_⟩
  rcases (show z.length = 0 ∨ z.length = 1 ∨ z.length = 2 ∨ z.length = 3 ∨ z.length = 4 by omega) with e | e | e | e | e <;> rw [e] <;> decide
theorem wrap_mul {S x S2 : Int} (h : S * x = S2) (h1 : 0 ≤ S2 ∧ S2 ≤ 4294967296) : IntKind.i64.wrap (S * x) = S2 := by
  rw [h, IntKind.wrap_i64]
  omega
theorem sumP_step {l : List (Nat × Nat)} {k : Nat} (h : k < l.length) : sumP (l.take (k + 1)) = sumP (l.take k) + (((l[k]).2 : Int) - ((l[k]).1 : Int) + 1) := by
  rw [List.take_succ_eq_append_getElem h, sumP_append]
  unfold sumP
  simp
theorem sumP_bound : ∀ (l : List (Nat × Nat)), (∀ p ∈ l, p.1 ≤ p.2 ∧ p.2 ≤ 1114111) → 0 ≤ sumP l ∧ sumP l ≤ 1114112 * l.length
  | [], _ => by unfold sumP; simp
  | p :: l, h => by
    have hp := h p (List.mem_cons_self ..)
    have ih := sumP_bound l (fun q hq => h q (List.mem_cons_of_mem _ hq))
    have e : sumP (p :: l) = ((p.2 : Int) - (p.1 : Int) + 1) + sumP l := by unfold sumP; simp
    rw [e, List.length_cons]
    omega
/-! ### Two lists of bytes of the call's own -/
structure B2 (W0 wr : World) (v1 v2 : Value) (o1 o2 : List Int) : Prop where
  own1 : wr.ownsRow 0 5 1 v1 o1.length (encB o1)
  own2 : wr.ownsRow 0 5 1 v2 o2.length (encB o2)
  new1 : ∀ g, v1.ownBlock = some g → W0.heap.size ≤ g
  new2 : ∀ g, v2.ownBlock = some g → W0.heap.size ≤ g
  ne : ∀ g, v1.ownBlock = some g → v2.ownBlock ≠ some g
  touch : Touch (fun _ => False) W0 wr
theorem B2.still {W0 wr w' : World} {v1 v2 : Value} {o1 o2 : List Int} (h : B2 W0 wr v1 v2 o1 o2) (t : Touch (fun _ => False) wr w') : B2 W0 w' v1 v2 o1 o2 :=
  ⟨own_kept5 h.own1 (fun _ hg => t.block _ (lt_of_block (own_block5 h.own1 hg).choose_spec) id), own_kept5 h.own2 (fun _ hg => t.block _ (lt_of_block (own_block5 h.own2 hg).choose_spec) id), h.new1, h.new2, h.ne, h.touch.trans t (fun _ _ e => e)⟩
theorem B2.swap {W0 wr : World} {v1 v2 : Value} {o1 o2 : List Int} (h : B2 W0 wr v1 v2 o1 o2) : B2 W0 wr v2 v1 o2 o1 :=
  ⟨h.own2, h.own1, h.new2, h.new1, fun g e k => h.ne g k e, h.touch⟩
theorem B2.app {W0 wr w1 : World} {v1 v2 v' : Value} {o1 o2 : List Int} {x : Int} {H : Nat} (h : B2 W0 wr v1 v2 o1 o2) (hown : w1.ownsRow 0 5 1 v' (o1.length + 1) (encB o1 ++ [.int .u8 x])) (hg : wr.grownBy w1 v1.ownBlock) (hat : v'.ownBlock = v1.ownBlock ∨ v'.ownBlock = some H) (hH : wr.heap.size = H) : B2 W0 w1 v' v2 (o1 ++ [x]) o2 := by
  subst hH
  have key : ∀ k, k < wr.heap.size → v1.ownBlock ≠ some k → w1.heap[k]? = wr.heap[k]? := fun k hk hn => hg.block k hk (fun e => hn e.symm)
  refine ⟨?_, own_kept5 h.own2 (fun g e => key g (lt_of_block (own_block5 h.own2 e).choose_spec) (fun k => h.ne g k e)), fun g e => ?_, h.new2, fun g e k => ?_, h.touch.grown hg (fun k e hk => by have := h.new1 k e; omega)⟩
  · rw [List.length_append, encB, List.map_append]
    exact hown
  · rcases hat with k | k
    · exact h.new1 g (by rw [← k]; exact e)
    · rw [k] at e
      simp at e
      have := h.touch.size
      omega
  · rcases hat with z | z
    · exact h.ne g (by rw [← z]; exact e) k
    · rw [z] at e
      simp at e
      have := lt_of_block (own_block5 h.own2 k).choose_spec
      omega
theorem B2.own1k {W0 wr W : World} {v1 v2 : Value} {o1 o2 : List Int} {k : Nat} (h : B2 W0 wr v1 v2 o1 o2) (hk : o1.length = k) (t : Touch (fun _ => False) wr W) : W.ownsRow 0 5 1 v1 k (encB o1) := by
  have := (h.still t).own1
  rw [hk] at this
  exact this
theorem B2.own2k {W0 wr W : World} {v1 v2 : Value} {o1 o2 : List Int} {k : Nat} (h : B2 W0 wr v1 v2 o1 o2) (hk : o2.length = k) (t : Touch (fun _ => False) wr W) : W.ownsRow 0 5 1 v2 k (encB o2) := h.swap.own1k hk t
/-- One byte more, whatever was made meanwhile. -/
theorem B2.app1k {W0 wr W w1 : World} {v1 v2 v' : Value} {o1 o2 : List Int} {x : Int} {k : Nat} (h : B2 W0 wr v1 v2 o1 o2) (hk : o1.length = k) (t : Touch (fun _ => False) wr W) (hown : w1.ownsRow 0 5 1 v' (k + 1) (encB o1 ++ [.int .u8 x])) (hg : W.grownBy w1 v1.ownBlock) (hat : v'.ownBlock = v1.ownBlock ∨ v'.ownBlock = some W.heap.size) : B2 W0 w1 v' v2 (o1 ++ [x]) o2 := by
  subst hk
  exact (h.still t).app hown hg hat rfl
theorem B2.app2k {W0 wr W w1 : World} {v1 v2 v' : Value} {o1 o2 : List Int} {x : Int} {k : Nat} (h : B2 W0 wr v1 v2 o1 o2) (hk : o2.length = k) (t : Touch (fun _ => False) wr W) (hown : w1.ownsRow 0 5 1 v' (k + 1) (encB o2 ++ [.int .u8 x])) (hg : W.grownBy w1 v2.ownBlock) (hat : v'.ownBlock = v2.ownBlock ∨ v'.ownBlock = some W.heap.size) : B2 W0 w1 v1 v' o1 (o2 ++ [x]) := (h.swap.app1k hk t hown hg hat).swap
theorem B2.nil (w : World) : B2 w w (.slice none 0 0) (.slice none 0 0) [] [] :=
  ⟨by simpa [encB] using World.ownsRow_nil _ _ _ _, by simpa [encB] using World.ownsRow_nil _ _ _ _, fun g e => by simp [Value.ownBlock] at e, fun g e => by simp [Value.ownBlock] at e, fun g e => by simp [Value.ownBlock] at e, Touch.refl _ _⟩
end Go.Proofs.YtmokfheckngfiaaDoor

/- made: what the laws make of a list of pairs; conditions: those told. -/
namespace Go.Proofs.YtmokfheckngfiaaDoor.S
open Go.RowKit
open Go.Lib

set_option maxRecDepth 100000 in
set_option maxHeartbeats 8000000 in
theorem made_any (a : Option Addr) (cap : Nat) (l : List R2) (w : World) (hl : Rg w a l) (hb : l.length * 16 ≤ 140737488351232) :
    Calls Tryd.prog 20 #[.slice a l.length cap] w fun e w' => ∃ v v2 s, e = .returned (.tuple #[v, v2]) ∧ Canon s ∧ (∀ x, In x s ↔ (0 ≤ x ∧ x ≤ 1114111) ∧ In x l) ∧ OwE w w' 38 v s ∧ OwE w w' 69 v2 l := by
  obtain ⟨i0, hi33, hz0, hz1, hz2⟩ := info_parts info33
  obtain ⟨j0, hi47, hy0, hy1, hy2⟩ := info_parts info47
  have HL := hid hl
  clear hl
  go_enter Tryd.func20, Tryd.ntmps20
  go_wp2_with fail
  go_loopg [4, 5, 6] l.length (fun gk v4 v5 i wr => ∃ k : Nat, k + gk = l.length ∧ i = .int .i64 (k : Nat) ∧ OwE w wr 38 v4 (l.take k) ∧ OwE w wr 69 v5 (l.take k))
  case atStart => exact ⟨0, by omega, rfl, OwE.nil _ _, OwE.nil _ _⟩
  case round =>
    obtain ⟨k, hk, rfl, h4, h5⟩ := hrel
    have O4 := hid h4
    have O5 := hid h5
    have HLR := hid (HL.out.new h4.touch)
    obtain ⟨a4, c4, hv4⟩ := own_shape h4.own
    obtain ⟨a5, c5, hv5⟩ := own_shape h5.own
    subst hv4
    subst hv5
    clear h4 h5
    have htl : (l.take k).length = k := by rw [List.length_take]; omega
    rw [htl] at O4 O5 ⊢
    by_cases hlt : k < l.length
    · obtain ⟨b, o, ha, hbl, hcell⟩ : ∃ b o, a = some ⟨b, o, none⟩ ∧ b < wr.heap.size ∧ ∀ i (h : i < l.length), wr.cell? ⟨b, o + i * 2, none⟩ = some (.int .i64 (l[i]).1) ∧ wr.cell? ⟨b, o + i * 2 + 1, none⟩ = some (.int .i64 (l[i]).2) := by
        rcases HLR.out with h | h
        · rw [h] at hlt; simp at hlt
        · exact h
      subst ha
      obtain ⟨d0, d1⟩ := hcell k hlt
      obtain ⟨r, hr⟩ : ∃ r, r = l[k] := ⟨_, rfl⟩
      have HT := hid (show l.take (k + 1) = l.take k ++ [r] from by rw [hr, List.take_succ_eq_append_getElem hlt])
      rw [← hr] at d0 d1
      obtain ⟨x, y⟩ := r
      dsimp only at d0 d1
      have HRK := hid hr.symm
      have hkI : (k : Int) < (l.length : Int) := by omega
      clear hcell hr htl
      obtain ⟨s, hs⟩ : ∃ s, s = l.take k := ⟨_, rfl⟩
      have hsl : s.length ≤ k := by rw [hs, List.length_take]; omega
      rw [← hs] at O4 O5 HT
      clear hs
      go_upto_region 6 with fail
      go_region_law (
        (refine step_append_own _ (by rfl) _ _ _ (by rfl) 0 38 i0 _ 2 16 Tryd.underlying34 hi33 hz0 hz1 hz2 rfl (by decide) _ _ _ (by rfl) ((O4.out.own.alloc _).drew) ⟨wr.heap.size, 0, none⟩ 1 1 [.int .i64 x, .int .i64 y] (by rfl) (by rfl) (row_new wr [.int .i64 x, .int .i64 y] 38) (by intro u hu; simp at hu; rcases hu with rfl | rfl <;> rfl) (by unfold maxLen; omega) (by omega) (Nat.zero_le _) (wr.heap.size + 1) (by simp) ?_
         intro v4' w4 hown hgrow hat))
      all_goals
        have HG := hid (show (wr.alloc (.cells #[.int .i64 x, .int .i64 y] 38)).grownBy w4 (Value.slice a4 k c4).ownBlock from ⟨hgrow.os, hgrow.tape, hgrow.output, hgrow.size, hgrow.block⟩)
        have P4 := hid (O4.out.more (xs := [(x, y)]) hown HG.out hat)
        have P5 := hid (O5.out.beside O4.out (by decide) HG.out)
        have HLR2 := hid (show Rg w4 (some ⟨b, o, none⟩) l from HL.out.new P4.out.touch)
        clear hown hgrow hat d0 d1 HG
        obtain ⟨a4', c4', hv4⟩ := own_shape P4.out.own
        subst hv4
        obtain ⟨d0, d1⟩ : w4.cell? ⟨b, o + k * 2, none⟩ = some (.int .i64 x) ∧ w4.cell? ⟨b, o + k * 2 + 1, none⟩ = some (.int .i64 y) := by
          rcases HLR2.out with h | ⟨b', o', e, _, hc⟩
          · rw [h] at hlt; simp at hlt
          · simp only [Option.some.injEq, Addr.mk.injEq, and_true] at e
            obtain ⟨rfl, rfl⟩ := e
            have hq := hc k hlt
            rw [HRK.out] at hq
            exact hq
        clear HLR HLR2
        go_upto_region 7 with fail
        go_region_law (
        (refine step_append_own _ (by rfl) _ _ _ (by rfl) 0 69 j0 _ 2 16 Tryd.underlying43 hi47 hy0 hy1 hy2 rfl (by decide) _ _ _ (by rfl) ((P5.out.own.alloc _).drew) ⟨w4.heap.size, 0, none⟩ 1 1 [.int .i64 x, .int .i64 y] (by rfl) (by rfl) (row_new w4 [.int .i64 x, .int .i64 y] 69) (by intro u hu; simp at hu; rcases hu with rfl | rfl <;> rfl) (by unfold maxLen; omega) (by omega) (Nat.zero_le _) (w4.heap.size + 1) (by simp) ?_
         intro v5' w5 hown hgrow hat))
        all_goals
          have HG := hid (show (w4.alloc (.cells #[.int .i64 x, .int .i64 y] 69)).grownBy w5 (Value.slice a5 k c5).ownBlock from ⟨hgrow.os, hgrow.tape, hgrow.output, hgrow.size, hgrow.block⟩)
          have Q5 := hid (P5.out.more (xs := [(x, y)]) hown HG.out hat)
          have Q4 := hid (P4.out.beside P5.out (by decide) HG.out)
          clear hown hgrow hat HG
          go_wp2
          go_roundg (gk - 1)
          case measure => omega
          case rel =>
            refine ⟨k + 1, by omega, by go_num, ?_, ?_⟩
            · rw [HT.out]
              have := Q4.out
              rw [List.length_append] at this
              exact this
            · rw [HT.out]
              exact Q5.out
    · obtain rfl : k = l.length := by omega
      rw [List.take_length] at O4 O5
      obtain ⟨a4', c4', hv4, hrg⟩ := O4.out.rg
      simp only [Value.slice.injEq] at hv4
      obtain ⟨rfl, _, rfl⟩ := hv4
      have K := hid (of_says a4 c4 l wr hrg hb)
      clear hrg
      go_wp2_with fail
      refine K.out.mono ?_
      rintro e w1 ⟨v, s, rfl, hcn, hin, ow⟩
      have OW := hid ow
      have HCN := hid hcn
      have HIN := hid hin
      obtain ⟨a2, c2, hav⟩ := own_shape ow.own
      subst hav
      clear ow hcn hin K
      go_wp2
      go_ret2
      exact ⟨_, _, s, rfl, HCN.out, HIN.out, ⟨OW.out.own, fun g e => Nat.le_trans O4.out.touch.size (OW.out.new g e), O4.out.touch.trans OW.out.touch (fun _ _ e => e)⟩, O5.out.still OW.out.touch⟩
end Go.Proofs.YtmokfheckngfiaaDoor.S

/- speaks of the laws of utfsplit; conditions: those told. -/
namespace Go.Proofs.YtmokfheckngfiaaDoor
open Go.RowKit
open Go.Lib

theorem zip65 : List.zip (en8 ((65 : Nat) : Int)) (en8 ((65 : Nat) : Int)) = [(65, 65)] := by decide
/-- Of one range of one number, what Split is asked. -/
theorem in_scalar {s : List S.R2} {r : Int} (h : ∀ x, S.In x s ↔ (0 ≤ x ∧ x ≤ 1114111) ∧ S.In x [(r, r)]) (hr : scB r = true) : ∀ y, S.In y s ∧ ¬ S.In y surL ↔ y = r := fun y => by
  have h2 := (scB_iff r).1 hr
  rw [h y, S.in_one, surL, S.in_one]
  dsimp only
  omega
theorem in_none {s : List S.R2} {r : Int} (h : ∀ x, S.In x s ↔ (0 ≤ x ∧ x ≤ 1114111) ∧ S.In x [(r, r)]) (hr : scB r = false) : ∀ y, S.In y s ∧ ¬ S.In y surL ↔ False := fun y => by
  have h2 : ¬ (0 ≤ r ∧ r ≤ 1114111 ∧ (r < 55296 ∨ 57344 ≤ r)) := fun k => by
    rw [(scB_iff r).2 k] at hr
    cases hr
  rw [h y, S.in_one, surL, S.in_one]
  dsimp only
  refine ⟨fun k => ?_, False.elim⟩
  omega
theorem ow_cap {W0 wr : World} {ty n cap : Nat} {a : Option Addr} {s : List S.R2} (h : S.Ow W0 wr ty (.slice a n cap) s) : s.length ≤ cap := by
  rcases h.own.2 with ⟨_, h0⟩ | ⟨g, cap', cur, hv, _, _, hle, _⟩
  · omega
  · simp only [Value.slice.injEq] at hv
    omega
theorem fitA : fitFrom [(65, 65)] ⟨#[65]⟩ 1 := fun k h _ _ => by
  obtain rfl : k = 0 := by simp at h; omega
  exact (show (65 : Int) ≤ 65 ∧ (65 : Int) ≤ 65 by decide)
theorem fitB : ¬ fitFrom [(65, 65)] ⟨#[66]⟩ 1 := fun h => by
  have := h 0 (by decide) (by decide) (by decide)
  revert this
  decide
theorem hasA (a : Option Addr) (c : Nat) (w : World) (h : S.Rg w a [(65, 65)]) : Calls Tryd.prog 19 #[.slice a 1 c, .string ⟨#[65]⟩] w fun e w' => e = .returned (.bool true) ∧ Touch (fun _ => False) w w' := by
  refine (rowHas_any a c [(65, 65)] ⟨#[65]⟩ w h rfl (by decide)).mono ?_
  rintro e w' ⟨⟨b, rfl, hb⟩, tc⟩
  obtain rfl : b = true := hb.2 fitA
  exact ⟨rfl, tc⟩
theorem hasB' (a : Option Addr) (c : Nat) (w : World) (h : S.Rg w a [(65, 65)]) : Calls Tryd.prog 19 #[.slice a 1 c, .string ⟨#[66]⟩] w fun e w' => e = .returned (.bool false) ∧ Touch (fun _ => False) w w' := by
  refine (rowHas_any a c [(65, 65)] ⟨#[66]⟩ w h rfl (by decide)).mono ?_
  rintro e w' ⟨⟨b, rfl, hb⟩, tc⟩
  cases b
  · exact ⟨rfl, tc⟩
  · exact absurd (hb.1 rfl) fitB
set_option maxRecDepth 100000 in
set_option maxHeartbeats 8000000 in
theorem speaks_yes (w : World) (hbd : Bord w) : Calls Tryd.prog 14 #[] w fun e w' => e = .returned (.bool true) ∧ Touch (fun _ => False) w w' := by
  have HBD := hid hbd
  clear hbd
  have RG := hid (lit_rg w 65 65)
  have TB := hid ((Touch.refl (fun _ => False) w).alloc (.cells #[.int .i64 65, .int .i64 65] 38))
  go_enter Tryd.func14, Tryd.ntmps14
  go_wp2_with fail
  change Calls Tryd.prog 16 #[_] (w.alloc (.cells #[.int .i64 65, .int .i64 65] 38)) _
  generalize (w.alloc (.cells #[.int .i64 65, .int .i64 65] 38)) = w2 at *
  refine (S.of_says (some ⟨w.heap.size, 0, none⟩) 1 [(65, 65)] w2 RG.out (by simp)).mono ?_
  rintro e w3 ⟨v, s3, rfl, hcs, his, ows⟩
  obtain ⟨a3, c3, hv, hrs⟩ := S.own_rg ows.own
  subst hv
  have T3 := hid (TB.out.trans ows.touch (fun _ _ e => e))
  have KS := hid (split_one 65 (by decide) a3 c3 s3 w3 hrs hcs (ow_cap ows) (HBD.out.new T3.out) (in_scalar his (by decide)))
  rw [zip65] at KS
  clear hcs his ows hrs RG TB
  go_wp2_with fail
  refine KS.out.mono ?_
  rintro e w4 ⟨b, n, a, c, rfl, hb, hn, hcell, hrg, tc⟩
  have T4 := hid (T3.out.trans tc (fun _ _ e => e))
  have RG := hid hrg
  have hcell1 : w4.cell? ⟨b, 0, none⟩ = some (.slice a 1 c) := hcell
  clear hcell hrg tc KS T3
  go_wp2_with fail
  refine (hasA a c w4 RG.out).mono ?_
  rintro e w5 ⟨rfl, t5⟩
  have hcell2 : w5.cell? ⟨b, 0, none⟩ = some (.slice a 1 c) := (t5.cell (p := ⟨b, 0, none⟩) hb id).trans hcell1
  have RG5 := hid (RG.out.new t5)
  have T5 := hid (T4.out.trans t5 (fun _ _ e => e))
  clear t5 RG T4 hcell1
  go_wp2_with fail
  refine (hasB' a c w5 RG5.out).mono ?_
  rintro e w6 ⟨rfl, t6⟩
  have T6 := hid (T5.out.trans t6 (fun _ _ e => e))
  clear t6 T5
  go_wp2
  go_ret
  exact ⟨rfl, T6.out⟩
end Go.Proofs.YtmokfheckngfiaaDoor

/- Where a number would be in a list of ranges that rises, plain facts; no condition beside those told. -/
namespace Go.Proofs.YtmokfheckngfiaaDoor.S

theorem canon_lt {s : List R2} (h : Canon s) (i j : Nat) (hi : i < s.length) (hj : j < s.length) (hij : i < j) : s[i].2 + 1 < s[j].1 := (List.pairwise_iff_getElem.1 h.up) i j hi hj hij
theorem canon_mono {s : List R2} (h : Canon s) (i j : Nat) (hi : i < s.length) (hj : j < s.length) (hij : i ≤ j) : s[i].2 ≤ s[j].2 := by
  rcases Nat.lt_or_ge i j with k | k
  · have h1 := canon_lt h i j hi hj k
    have h2 := h.in_ s[j] (List.getElem_mem _)
    unfold inB at h2
    omega
  · obtain rfl : i = j := by omega
    exact Int.le_refl _
theorem has_none {s : List R2} (x : Int) (h1 : ∀ t (hl : t < s.length), ¬ x ≤ s[t].2) : hasB x s = false := by
  rw [← Bool.not_eq_true, hasB_iff]
  rintro ⟨r, hr, _, k⟩
  obtain ⟨t, ht, rfl⟩ := List.getElem_of_mem hr
  exact h1 t ht k
theorem has_at {s : List R2} (h : Canon s) (x : Int) (k : Nat) (hk : k < s.length) (h1 : ∀ t (_ : t < k) (hl : t < s.length), ¬ x ≤ s[t].2) (h2 : x ≤ s[k].2) : hasB x s = decide (s[k].1 ≤ x) := by
  refine hasB_eq ?_
  rw [decide_eq_true_eq]
  constructor
  · rintro ⟨r, hr, k1, k2⟩
    obtain ⟨t, ht, rfl⟩ := List.getElem_of_mem hr
    rcases Nat.lt_trichotomy t k with q | q | q
    · exact absurd k2 (h1 t q ht)
    · subst q
      exact k1
    · have := canon_lt h k t hk ht q
      omega
  · exact fun q => ⟨s[k], List.getElem_mem _, q, h2⟩
end Go.Proofs.YtmokfheckngfiaaDoor.S

/- Size of a set; no condition beside those told. -/
namespace Go.Proofs.YtmokfheckngfiaaDoor.S
open Go.RowKit

theorem size_take {s : List R2} (hs : ∀ r ∈ s, inB r) : ∀ k, k ≤ s.length → 0 ≤ sizeL (s.take k) ∧ sizeL (s.take k) ≤ 1114112 * (k : Int)
  | 0, _ => by simp [sizeL]
  | k + 1, h => by
    have h1 := size_take hs k (by omega)
    have h2 := hs s[k] (List.getElem_mem _)
    unfold inB at h2
    rw [List.take_succ_eq_append_getElem (by omega), sizeL_append, sizeL_cons, sizeL_nil]
    omega
theorem size_step {s : List R2} {k : Nat} (h : k < s.length) : sizeL (s.take (k + 1)) = sizeL (s.take k) + ((s[k]).2 - (s[k]).1 + 1) := by
  rw [List.take_succ_eq_append_getElem h, sizeL_append, sizeL_cons, sizeL_nil]
  omega

set_option maxRecDepth 100000 in
set_option maxHeartbeats 4000000 in
theorem size_any (a : Option Addr) (cap : Nat) (s : List R2) (w : World) (hl : Rg w a s) (hs : ∀ r ∈ s, inB r) (hb : s.length ≤ 1048576) :
    Calls Tryd.prog 24 #[.slice a s.length cap] w fun e w' => e = .returned (.int .i64 (sizeL s)) ∧ Touch (fun _ => False) w w' := by
  have HL := hid hl
  have HS := hid hs
  clear hl hs
  go_enter Tryd.func24, Tryd.ntmps24
  go_wp2_with fail
  go_loopg [3, 8] s.length (fun gk n i wr => ∃ k : Nat, k + gk = s.length ∧ i = .int .i64 (k : Nat) ∧ n = .int .i64 (sizeL (s.take k)) ∧ Touch (fun _ => False) w wr)
  case atStart => exact ⟨0, by omega, rfl, rfl, Touch.refl _ _⟩
  case round =>
    obtain ⟨k, hk, rfl, rfl, htc⟩ := hrel
    have TC := hid htc
    have R1 := hid (HL.out.new htc)
    clear htc
    have hsz := size_take HS.out k (by omega)
    by_cases hlt : k < s.length
    · obtain ⟨b, o, ha, hbl, hcell⟩ : ∃ b o, a = some ⟨b, o, none⟩ ∧ b < wr.heap.size ∧ ∀ i (h : i < s.length), wr.cell? ⟨b, o + i * 2, none⟩ = some (.int .i64 (s[i]).1) ∧ wr.cell? ⟨b, o + i * 2 + 1, none⟩ = some (.int .i64 (s[i]).2) := by
        rcases R1.out with h | h
        · rw [h] at hlt; simp at hlt
        · exact h
      subst ha
      obtain ⟨d0, d1⟩ := hcell k hlt
      have hr1 := HS.out s[k] (List.getElem_mem _)
      unfold inB at hr1
      have HST := hid (size_step hlt)
      obtain ⟨r, hr⟩ : ∃ r, r = s[k] := ⟨_, rfl⟩
      rw [← hr] at d0 d1 hr1 HST
      obtain ⟨x, y⟩ := r
      dsimp only at d0 d1 hr1 HST
      obtain ⟨z, hz⟩ : ∃ z, z = sizeL (s.take k) := ⟨_, rfl⟩
      rw [← hz] at HST hsz ⊢
      clear hcell hr R1 hz
      go_wp2_with fail
      go_roundg (gk - 1)
      case measure => omega
      case rel => exact ⟨k + 1, by omega, by go_num, by rw [HST.out], by first | exact (TC.out.alloc _) | exact ((TC.out.alloc _).drewN _)⟩
    · obtain rfl : k = s.length := by omega
      rw [List.take_length]
      go_wp2
      go_ret
      exact ⟨rfl, TC.out⟩

theorem size_says (a : Option Addr) (cap : Nat) (s : List R2) (w : World) (hl : Rg w a s) (hs : Canon s) :
    Calls Tryd.prog 24 #[.slice a s.length cap] w fun e w' => e = .returned (.int .i64 (sizeL s)) ∧ Touch (fun _ => False) w w' :=
  size_any a cap s w hl hs.in_ (by have := canon_len hs; omega)
end Go.Proofs.YtmokfheckngfiaaDoor.S
