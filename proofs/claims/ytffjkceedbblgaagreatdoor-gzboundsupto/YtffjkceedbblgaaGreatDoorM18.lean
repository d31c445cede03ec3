/- Texts of this proof, one behind the other: what each says stands ahead of it. -/
import Derived.Test.YtffjkceedbblgaaGreatDoorM17
import Derived.Deep.RegionHeld3
import Derived.Deep.AppendLies
import Derived.Deep.DeepCutAuto
import Derived.Deep.LoopGhost
import Derived.Deep.QuietTactic
import Derived.BigQuiet
import Derived.OneCell
/- The blocks of a choice; conditions: those told. -/
namespace Go.Proofs.YtffjkceedbblgaaGreatDoor
open Go.RowKit
open Go.Lib

abbrev B4 := Int × Int × Int × Int
def flatB (l : List B4) : List Value := l.flatMap fun x => [.int .i64 x.1, .int .i64 x.2.1, .int .i64 x.2.2.1, .int .i64 x.2.2.2]
theorem flatB_len (l : List B4) : (flatB l).length = l.length * 4 := by
  unfold flatB
  induction l with
  | nil => rfl
  | cons x l ih => rw [List.flatMap_cons, List.length_append, ih, List.length_cons]; simp only [List.length_cons, List.length_nil]; omega
theorem flatB_append (l m : List B4) : flatB (l ++ m) = flatB l ++ flatB m := by unfold flatB; rw [List.flatMap_append]
theorem flatB_at (l : List B4) (i : Nat) (h : i < l.length) : (flatB l)[i * 4]? = some (.int .i64 (l[i]).1) ∧ (flatB l)[i * 4 + 1]? = some (.int .i64 (l[i]).2.1) ∧ (flatB l)[i * 4 + 2]? = some (.int .i64 (l[i]).2.2.1) ∧ (flatB l)[i * 4 + 3]? = some (.int .i64 (l[i]).2.2.2) := by
  induction l generalizing i with
  | nil => simp at h
  | cons x l ih =>
    have e : flatB (x :: l) = [.int .i64 x.1, .int .i64 x.2.1, .int .i64 x.2.2.1, .int .i64 x.2.2.2] ++ flatB l := by unfold flatB; rw [List.flatMap_cons]
    rw [e]
    match i, h with
    | 0, _ => exact ⟨rfl, rfl, rfl, rfl⟩
    | i + 1, h =>
      have hi : i < l.length := by simpa using h
      obtain ⟨h0, h1, h2, h3⟩ := ih i hi
      refine ⟨?_, ?_, ?_, ?_⟩
      · rw [List.getElem?_append_right (by simp; omega)]; simpa [show (i + 1) * 4 - 4 = i * 4 by omega] using h0
      · rw [List.getElem?_append_right (by simp; omega)]; simpa [show (i + 1) * 4 + 1 - 4 = i * 4 + 1 by omega] using h1
      · rw [List.getElem?_append_right (by simp; omega)]; simpa [show (i + 1) * 4 + 2 - 4 = i * 4 + 2 by omega] using h2
      · rw [List.getElem?_append_right (by simp; omega)]; simpa [show (i + 1) * 4 + 3 - 4 = i * 4 + 3 by omega] using h3
/-- Blocks in a list of the call's own. -/
structure OwB (W0 wr : World) (v : Value) (l : List B4) : Prop where
  own : wr.ownsRow 0 83 4 v l.length (flatB l)
  new : ∀ g, v.ownBlock = some g → W0.heap.size ≤ g
  touch : Touch (fun _ => False) W0 wr
theorem OwB.nil (w : World) : OwB w w (.slice none 0 0) [] := ⟨by simpa [flatB] using World.ownsRow_nil _ _ _ _, by intro g h; simp [Value.ownBlock] at h, Touch.refl _ _⟩
theorem own_shapeQ {w : World} {base e sz n : Nat} {v : Value} {xs : List Value} (h : w.ownsRow base e sz v n xs) : ∃ a c, v = .slice a n c := by
  rcases h.2 with ⟨rfl, rfl⟩ | ⟨g, cap, cur, rfl, _⟩
  · exact ⟨none, 0, rfl⟩
  · exact ⟨_, _, rfl⟩
theorem OwB.still {W0 wr w' : World} {v : Value} {l : List B4} (h : OwB W0 wr v l) (tc : Touch (fun _ => False) wr w') : OwB W0 w' v l := by
  refine ⟨⟨h.own.1, ?_⟩, h.new, h.touch.trans tc (fun _ _ e => e)⟩
  rcases h.own.2 with h0 | ⟨g, cap, cur, hv, hg, hh, rest⟩
  · exact .inl h0
  · exact .inr ⟨g, cap, cur, hv, hg, (tc.block g (lt_of_block hh) id).trans hh, rest⟩
theorem OwB.app {W0 wr W w1 : World} {v v' : Value} {l m : List B4} (h : OwB W0 wr v l) (t : Touch (fun _ => False) wr W) (hown : w1.ownsRow 0 83 4 v' (l.length + m.length) (flatB l ++ flatB m)) (hg : W.grownBy w1 v.ownBlock) (hat : v'.ownBlock = v.ownBlock ∨ v'.ownBlock = some W.heap.size) : OwB W0 w1 v' (l ++ m) := by
  have ht := h.touch.trans t (fun _ _ e => e)
  refine ⟨by rw [List.length_append, flatB_append]; exact hown, fun g e => ?_, ht.grown hg (fun k e hk => by have := h.new k e; omega)⟩
  rcases hat with k | k
  · exact h.new g (by rw [← k]; exact e)
  · rw [k] at e
    simp at e
    have := ht.size
    omega
/-- Blocks in memory, to be read. -/
def Bls (w : World) (a : Option Addr) (l : List B4) : Prop := l = [] ∨ ∃ b, a = some ⟨b, 0, none⟩ ∧ b < w.heap.size ∧ (∃ cs, w.heap[b]? = some (.cells cs 83 (0, 0))) ∧ ∀ i (h : i < l.length), w.cell? ⟨b, i * 4, none⟩ = some (.int .i64 (l[i]).1) ∧ w.cell? ⟨b, i * 4 + 1, none⟩ = some (.int .i64 (l[i]).2.1) ∧ w.cell? ⟨b, i * 4 + 2, none⟩ = some (.int .i64 (l[i]).2.2.1) ∧ w.cell? ⟨b, i * 4 + 3, none⟩ = some (.int .i64 (l[i]).2.2.2)
theorem OwB.rd {W0 wr : World} {v : Value} {l : List B4} (h : OwB W0 wr v l) : ∃ a c, v = .slice a l.length c ∧ Bls wr a l ∧ l.length ≤ c := by
  rcases h.own.2 with ⟨h1, h2⟩ | ⟨g, cap, cur, hv, hg, hh, hle, _⟩
  · exact ⟨none, 0, by rw [h1, h2], .inl (List.eq_nil_of_length_eq_zero h2), by omega⟩
  · refine ⟨some ⟨g, 0, none⟩, cap, hv, .inr ⟨g, rfl, lt_of_block hh, ⟨cur, hh⟩, fun i hi => ?_⟩, hle⟩
    obtain ⟨h0, h1, h2, h3⟩ := flatB_at l i hi
    have c := fun j u hj => h.own.cells (g := g) (by rw [hv]; rfl) j u hj
    have c0 := c _ _ h0
    have c1 := c _ _ h1
    have c2 := c _ _ h2
    have c3 := c _ _ h3
    rw [add_zero] at c0 c1 c2 c3
    exact ⟨c0, c1, c2, c3⟩
theorem Bls.keep {S : Nat → Prop} {w w' : World} {a : Option Addr} {l : List B4} (h : Bls w a l) (t : Touch S w w') (hs : ∀ b, (∃ cs, w.heap[b]? = some (.cells cs 83 (0, 0))) → ¬ S b) : Bls w' a l := by
  rcases h with h | ⟨b, ha, hb, hcs, hc⟩
  · exact .inl h
  · have hn := hs b hcs
    obtain ⟨cs, hcs⟩ := hcs
    refine .inr ⟨b, ha, Nat.lt_of_lt_of_le hb t.size, ⟨cs, (t.block b hb hn).trans hcs⟩, fun i hi => ?_⟩
    obtain ⟨h0, h1, h2, h3⟩ := hc i hi
    exact ⟨(t.cell (p := ⟨b, i * 4, none⟩) hb hn).trans h0, (t.cell (p := ⟨b, i * 4 + 1, none⟩) hb hn).trans h1, (t.cell (p := ⟨b, i * 4 + 2, none⟩) hb hn).trans h2, (t.cell (p := ⟨b, i * 4 + 3, none⟩) hb hn).trans h3⟩
/-- The kind that counts. -/
def kindOf (K : Int) : Int := if K < 0 then (-(K + 1)) % 3 else K % 3
theorem kindOf_neg {K : Int} (h : K < 0) : kindOf K = -((K + 1).tmod 3) := by
  unfold kindOf
  rw [if_pos h, ← Int.neg_tmod, Int.tmod_eq_emod_of_nonneg (by omega)]
/-- A reach, as it counts. -/
def cnted (r : Int) : Int := min (max r 0) 32768
/-- The spans of a choice's blocks. -/
def chunks (split : Bool) (f t : Nat) : List (Nat × Nat) := if h : split = true ∧ 65535 < t - f then (f, f + 65535) :: chunks split (f + 65535) t else [(f, t)]
termination_by t - f
decreasing_by omega
def blocksL (k r : Int) (f t : Nat) : List B4 := (chunks (decide (k = 0)) f t).map fun p => ((p.1 : Int), (p.2 : Int), k, r)
theorem chunks_more {s : Bool} {f t : Nat} (h : s = true ∧ 65535 < t - f) : chunks s f t = (f, f + 65535) :: chunks s (f + 65535) t := by
  rw [chunks, dif_pos h]
theorem chunks_one {s : Bool} {f t : Nat} (h : ¬ (s = true ∧ 65535 < t - f)) : chunks s f t = [(f, t)] := by
  rw [chunks, dif_neg h]
theorem chunks_len {s : Bool} : ∀ (n f t : Nat), t - f ≤ n → (chunks s f t).length ≤ (t - f) / 65535 + 1
  | 0, f, t, h => by rw [chunks_one (by omega)]; simp
  | n + 1, f, t, h => by
    by_cases hc : s = true ∧ 65535 < t - f
    · rw [chunks_more hc, List.length_cons]
      have := chunks_len (s := s) n (f + 65535) t (by omega)
      omega
    · rw [chunks_one hc]; simp
theorem info73B : (Tryz.prog.info? 83).map (fun i => (i.zero, i.size, i.bytes)) = some (some (.agg #[.int .i64 0, .int .i64 0, .int .i64 0, .int .i64 0]), 4, 32) := by kernel_rfl
set_option maxRecDepth 100000 in
set_option maxHeartbeats 8000000 in
theorem kind_any (K S R : Int) (hK : -9223372036854775808 ≤ K ∧ K ≤ 9223372036854775807) (w : World) : Calls Tryz.prog 58 #[.agg #[.int .i64 K, .int .i64 S, .int .i64 R]] w fun e w' => e = .returned (.int .i64 (kindOf K)) ∧ Touch (fun _ => False) w w' := by
  have TA := hid ((Touch.refl (fun _ => False) w).alloc (.cells #[.int .i64 K, .int .i64 S, .int .i64 R] 105))
  have FB := hid (show (w.alloc (.cells #[.int .i64 K, .int .i64 S, .int .i64 R] 105)).heap[w.heap.size]? = some (.cells #[.int .i64 K, .int .i64 S, .int .i64 R] 105 (0, 0)) by show (w.heap.push _)[_]? = _; simp)
  by_cases h : K < 0
  · have HR := hid (kindOf_neg h)
    have hw1 : IntKind.i64.wrap (K + 1) = K + 1 := by rw [IntKind.wrap_i64]; omega
    have hw2 : IntKind.i64.wrap (-(K + 1)) = -(K + 1) := by rw [IntKind.wrap_i64]; omega
    clear hK
    go_enter Tryz.func58, Tryz.ntmps58
    go_wp2
    go_ret
    exact ⟨by rw [HR.out]; rfl, TA.out⟩
  · have HR := hid (show kindOf K = K % 3 by unfold kindOf; rw [if_neg h])
    clear hK
    go_enter Tryz.func58, Tryz.ntmps58
    go_wp2
    go_ret
    exact ⟨by rw [HR.out]; rfl, TA.out⟩
set_option maxRecDepth 100000 in
set_option maxHeartbeats 8000000 in
theorem counted_any (r : Int) (w : World) : Calls Tryz.prog 59 #[.int .i64 r] w fun e w' => e = .returned (.int .i64 (cnted r)) ∧ w = w' := by
  by_cases h0 : r < 0
  · have HR := hid (show cnted r = 0 by unfold cnted; omega)
    have h1 : ¬ (32768 < (0 : Int)) := by omega
    go_enter Tryz.func59, Tryz.ntmps59
    go_wp2
    go_ret
    exact ⟨by rw [HR.out]; rfl, rfl⟩
  · by_cases h1 : r ≤ 32768
    · have HR := hid (show cnted r = r by unfold cnted; omega)
      have h0' : 0 ≤ r := by omega
      go_enter Tryz.func59, Tryz.ntmps59
      go_wp2
      go_ret
      exact ⟨by rw [HR.out]; rfl, rfl⟩
    · have HR := hid (show cnted r = 32768 by unfold cnted; omega)
      have h0' : 0 ≤ r := by omega
      go_enter Tryz.func59, Tryz.ntmps59
      go_wp2
      go_ret
      exact ⟨by rw [HR.out]; rfl, rfl⟩
theorem kindOf_in (K : Int) : 0 ≤ kindOf K ∧ kindOf K ≤ 2 := by
  unfold kindOf
  split <;> omega
theorem cnted_in (r : Int) : 0 ≤ cnted r ∧ cnted r ≤ 32768 := by
  unfold cnted
  omega
theorem keep3 {w W : World} {q : Nat} {a b c : Value} (ql : q < w.heap.size) (h : w.cell? ⟨q, 0, none⟩ = some a ∧ w.cell? ⟨q, 1, none⟩ = some b ∧ w.cell? ⟨q, 2, none⟩ = some c) (t : Touch (fun _ => False) w W) : W.cell? ⟨q, 0, none⟩ = some a ∧ W.cell? ⟨q, 1, none⟩ = some b ∧ W.cell? ⟨q, 2, none⟩ = some c ∧ Touch (fun _ => False) w W :=
  ⟨(t.cell (p := ⟨q, 0, none⟩) ql id).trans h.1, (t.cell (p := ⟨q, 1, none⟩) ql id).trans h.2.1, (t.cell (p := ⟨q, 2, none⟩) ql id).trans h.2.2, t⟩
theorem news4 {w W : World} {x : B4} (tc : Touch (fun _ => False) (w.alloc (.cells #[.int .i64 x.1, .int .i64 x.2.1, .int .i64 x.2.2.1, .int .i64 x.2.2.2] 83)) W) : ∀ j u, (flatB [x])[j]? = some u → W.cell? ((⟨w.heap.size, 0, none⟩ : Addr).add j) = some u := by
  intro j u hj
  have hb : (w.alloc (.cells #[.int .i64 x.1, .int .i64 x.2.1, .int .i64 x.2.2.1, .int .i64 x.2.2.2] 83)).heap[w.heap.size]? = some (.cells #[.int .i64 x.1, .int .i64 x.2.1, .int .i64 x.2.2.1, .int .i64 x.2.2.2] 83 (0, 0)) := by show (w.heap.push _)[_]? = _; simp
  rw [add_zero, tc.cell (p := ⟨w.heap.size, j, none⟩) (by simp) id]
  simp only [World.cell?, hb, Option.isSome_none, Bool.false_eq_true, if_false]
  rw [← hj]
  simp [flatB]
set_option maxRecDepth 100000 in
set_option maxHeartbeats 8000000 in
theorem blocksOf_any (K S R : Int) (hK : -9223372036854775808 ≤ K ∧ K ≤ 9223372036854775807) (f0 t : Nat) (hft : f0 ≤ t) (ht : t ≤ 1099511627776) (w : World) :
    Calls Tryz.prog 42 #[.agg #[.int .i64 K, .int .i64 S, .int .i64 R], .int .i64 (f0 : Nat), .int .i64 (t : Nat)] w fun e w' => ∃ v, e = .returned v ∧ OwB w w' v (blocksL (kindOf K) (cnted R) f0 t) := by
  obtain ⟨i0, hi73, hz0, hz1, hz2⟩ := info_parts info73B
  have TA := hid ((Touch.refl (fun _ => False) w).alloc (.cells #[.int .i64 K, .int .i64 S, .int .i64 R] 105))
  have FB := hid (show (w.alloc (.cells #[.int .i64 K, .int .i64 S, .int .i64 R] 105)).heap[w.heap.size]? = some (.cells #[.int .i64 K, .int .i64 S, .int .i64 R] 105 (0, 0)) by show (w.heap.push _)[_]? = _; simp)
  have KK := hid (fun w => kind_any K S R hK w)
  have KC := hid (fun w => counted_any R w)
  have hkin := kindOf_in K
  have hcin := cnted_in R
  clear hK
  go_enter Tryz.func42, Tryz.ntmps42
  go_upto_region 1 with fail
  generalize (w.alloc (.cells #[.int .i64 K, .int .i64 S, .int .i64 R] 105)) = w1 at *
  obtain ⟨q, hq⟩ : ∃ q, q = w.heap.size := ⟨_, rfl⟩
  rw [← hq] at FB ⊢
  clear hq
  have QL := hid (lt_of_block FB.out)
  have c0 := hid (qblk_cell FB.out 0 (by simp))
  have c1 := hid (qblk_cell FB.out 1 (by simp))
  have c2 := hid (qblk_cell FB.out 2 (by simp))
  have d0 : w1.cell? ⟨q, 0, none⟩ = some (.int .i64 K) := c0.out
  have d1 : w1.cell? ⟨q, 1, none⟩ = some (.int .i64 S) := c1.out
  have d2 : w1.cell? ⟨q, 2, none⟩ = some (.int .i64 R) := c2.out
  have D := hid (show w1.cell? ⟨q, 0, none⟩ = some (.int .i64 K) ∧ w1.cell? ⟨q, 1, none⟩ = some (.int .i64 S) ∧ w1.cell? ⟨q, 2, none⟩ = some (.int .i64 R) from ⟨d0, d1, d2⟩)
  clear c0 c1 c2
  obtain ⟨k, hkk⟩ : ∃ k, k = kindOf K := ⟨_, rfl⟩
  obtain ⟨rc, hrc⟩ : ∃ rc, rc = cnted R := ⟨_, rfl⟩
  rw [← hkk] at KK hkin
  rw [← hrc] at KC hcin
  have HKK := hid hkk
  have HRC := hid hrc
  clear hkk hrc
  go_cut [7, 8] (fun v7 v8 wd => v7 = .int .i64 k ∧ v8 = .int .i64 rc ∧ Touch (fun _ => False) w1 wd)
  case first =>
    first
    | (go_region_held3 (fun w' => w'.cell? ⟨q, 0, none⟩ = some (.int .i64 K) ∧ w'.cell? ⟨q, 1, none⟩ = some (.int .i64 S) ∧ w'.cell? ⟨q, 2, none⟩ = some (.int .i64 R) ∧ Touch (fun _ => False) w1 w')
        (first
         | exact ⟨D.out.1, D.out.2.1, D.out.2.2, Touch.refl _ _⟩
         | exact keep3 QL.out D.out TK.out
         | exact keep3 QL.out D.out (Touch.refl _ _).drew
         | exact keep3 QL.out D.out TK.out.drew)
        (first
         | (go_at_call 58
            refine (KK.out _).mono ?_
            rintro e w2 ⟨rfl, t2⟩
            have TK := hid (show Touch (fun _ => False) w1 w2 from by first | exact t2 | exact (Touch.refl (fun _ => False) w1).drew.trans t2 (fun _ _ e => e) | exact TK.out.trans t2 (fun _ _ e => e) | exact TK.out.drew.trans t2 (fun _ _ e => e))
            clear t2)
         | (go_at_call 59
            refine (KC.out _).mono ?_
            rintro e w2 ⟨rfl, rfl⟩)))
    | fail
    all_goals go_wp2
    all_goals go_meet
    all_goals exact ⟨rfl, rfl, TK.out⟩
  obtain ⟨rfl, rfl, htd⟩ := hcut
  have T1 := hid (TA.out.trans htd (fun _ _ e => e))
  clear htd TA FB KK KC D d0 d1 d2 QL
  obtain ⟨w3, hw3⟩ : ∃ w3, w3 = wc := ⟨_, rfl⟩
  subst hw3
  go_wp2_with fail
  go_loopg [1, 9] (t - f0) (fun gk v1 v9 wr => ∃ f : Nat, ∃ l : List B4, f + gk = t ∧ v1 = .int .i64 (f : Nat) ∧ OwB w wr v9 l ∧ l ++ blocksL k rc f t = blocksL k rc f0 t ∧ l.length ≤ f)
  case atStart => exact ⟨f0, [], by omega, rfl, (OwB.nil w).still T1.out, rfl, by simp⟩
  case round =>
    obtain ⟨f, l, hf, rfl, hob, heq, hll⟩ := hrel
    have OB := hid hob
    have EQ := hid heq
    obtain ⟨a9, c9, hv9⟩ := own_shapeQ hob.own
    subst hv9
    clear hob heq
    by_cases hk : k = 0
    · by_cases hc : 65535 < t - f
      · have hkb : (k == 0) = true := by simp [hk]
        have hcI : (65535 : Int) < (t : Int) - (f : Int) := by omega
        have NX := hid (show blocksL k rc f t = ((f : Int), ((f + 65535 : Nat) : Int), k, rc) :: blocksL k rc (f + 65535) t by
          unfold blocksL
          rw [chunks_more ⟨by simp [hk], hc⟩]
          rfl)
        have HK := hid hk
        clear hk
        go_wp2_with (at_builtin; refine wpList_append_own_at _ rfl _ _ 78 rfl 0 83 i0 (.agg #[.int .i64 0, .int .i64 0, .int .i64 0, .int .i64 0]) 4 32 Tryz.underlying78 hi73 hz0 hz1 hz2 rfl (by decide) _ _ _ rfl (OB.out.still ((Touch.refl (fun _ => False) wr).alloc _)).own ⟨wr.heap.size, 0, none⟩ 1 1 (flatB [((f : Int), ((f : Int) + 65535), k, rc)]) rfl rfl (news4 (Touch.refl _ _)) (by intro u hu; simp [flatB] at hu; rcases hu with rfl | rfl | rfl | rfl <;> rfl) (by unfold maxLen; omega) (by omega) (Nat.zero_le _) ?_)
        intro v4 w4 hown hgrow _ hat
        have O4 := hid (OB.out.app (m := [((f : Int), ((f : Int) + 65535), k, rc)]) ((Touch.refl (fun _ => False) wr).alloc _) hown hgrow (by simpa using hat))
        obtain ⟨a4, c4, hv4⟩ := own_shapeQ hown
        subst hv4
        clear hown hgrow hat
        go_wp2
        go_roundg (gk - 65535)
        case measure => omega
        case rel => exact ⟨f + 65535, l ++ [((f : Int), ((f : Int) + 65535), k, rc)], by omega, by go_num, O4.out, by rw [← EQ.out, NX.out, List.append_assoc]; rfl, by rw [List.length_append]; simp; omega⟩
      · have hkb : (k == 0) = true := by simp [hk]
        have hcI : ¬ ((65535 : Int) < (t : Int) - (f : Int)) := by omega
        have NX := hid (show blocksL k rc f t = [((f : Int), (t : Int), k, rc)] by
          unfold blocksL
          rw [chunks_one (by simp; omega)]
          rfl)
        clear hk
        go_wp2_with (at_builtin; refine wpList_append_own_at _ rfl _ _ 78 rfl 0 83 i0 (.agg #[.int .i64 0, .int .i64 0, .int .i64 0, .int .i64 0]) 4 32 Tryz.underlying78 hi73 hz0 hz1 hz2 rfl (by decide) _ _ _ rfl (OB.out.still ((Touch.refl (fun _ => False) wr).alloc _)).own ⟨wr.heap.size, 0, none⟩ 1 1 (flatB [((f : Int), (t : Int), k, rc)]) rfl rfl (news4 (Touch.refl _ _)) (by intro u hu; simp [flatB] at hu; rcases hu with rfl | rfl | rfl | rfl <;> rfl) (by unfold maxLen; omega) (by omega) (Nat.zero_le _) ?_)
        intro v4 w4 hown hgrow _ hat
        have O4 := hid (OB.out.app (m := [((f : Int), (t : Int), k, rc)]) ((Touch.refl (fun _ => False) wr).alloc _) hown hgrow (by simpa using hat))
        obtain ⟨a4, c4, hv4⟩ := own_shapeQ hown
        subst hv4
        clear hown hgrow hat
        go_wp2
        go_ret
        refine ⟨_, rfl, ?_⟩
        have := O4.out
        rw [← NX.out, EQ.out, HKK.out, HRC.out] at this
        exact this
    · have hkb : (k == 0) = false := by simp [hk]
      have NX := hid (show blocksL k rc f t = [((f : Int), (t : Int), k, rc)] by
        unfold blocksL
        rw [chunks_one (by simp; omega)]
        rfl)
      clear hk
      go_wp2_with (at_builtin; refine wpList_append_own_at _ rfl _ _ 78 rfl 0 83 i0 (.agg #[.int .i64 0, .int .i64 0, .int .i64 0, .int .i64 0]) 4 32 Tryz.underlying78 hi73 hz0 hz1 hz2 rfl (by decide) _ _ _ rfl (OB.out.still ((Touch.refl (fun _ => False) wr).alloc _)).own ⟨wr.heap.size, 0, none⟩ 1 1 (flatB [((f : Int), (t : Int), k, rc)]) rfl rfl (news4 (Touch.refl _ _)) (by intro u hu; simp [flatB] at hu; rcases hu with rfl | rfl | rfl | rfl <;> rfl) (by unfold maxLen; omega) (by omega) (Nat.zero_le _) ?_)
      intro v4 w4 hown hgrow _ hat
      have O4 := hid (OB.out.app (m := [((f : Int), (t : Int), k, rc)]) ((Touch.refl (fun _ => False) wr).alloc _) hown hgrow (by simpa using hat))
      obtain ⟨a4, c4, hv4⟩ := own_shapeQ hown
      subst hv4
      clear hown hgrow hat
      go_wp2
      go_ret
      refine ⟨_, rfl, ?_⟩
      have := O4.out
      rw [← NX.out, EQ.out, HKK.out, HRC.out] at this
      exact this
end Go.Proofs.YtffjkceedbblgaaGreatDoor

/- The plan without choices; conditions: those told. -/
namespace Go.Proofs.YtffjkceedbblgaaGreatDoor
open Go.RowKit
open Go.Lib

theorem flatB_one (l : List B4) : ∀ u ∈ flatB l, u.oneCell' = true := by
  intro u hu
  unfold flatB at hu
  obtain ⟨x, _, hx⟩ := List.mem_flatMap.1 hu
  simp at hx
  rcases hx with rfl | rfl | rfl | rfl <;> rfl
set_option maxRecDepth 100000 in
set_option maxHeartbeats 8000000 in
theorem planned_nil (size : Nat) (hs : size ≤ 1099511627776) (bl : List B4) (hble : blocksL 0 0 0 size = bl) (w : World) :
    Calls Tryz.prog 29 #[.int .i64 (size : Nat), .slice none 0 0] w fun e w' => ∃ v, e = .returned v ∧ OwB w w' v bl := by
  obtain ⟨i0, hi73, hz0, hz1, hz2⟩ := info_parts info73B
  have KB := hid (blocksOf_any 0 0 0 (by decide) 0 size (Nat.zero_le _) hs w)
  have e1 : kindOf 0 = 0 := by decide
  have e2 : cnted 0 = 0 := by decide
  rw [e1, e2] at KB
  have hlen := hid (show (blocksL 0 0 0 size).length ≤ 16800000 by
    unfold blocksL
    rw [List.length_map]
    have := chunks_len (s := decide ((0 : Int) = 0)) size 0 size (by omega)
    rw [Nat.sub_zero] at this
    have h2 : size / 65535 ≤ 16799999 := by omega
    omega)
  have hpos := hid (show 0 < (blocksL 0 0 0 size).length by
    unfold blocksL
    rw [List.length_map]
    by_cases hc : decide ((0 : Int) = 0) = true ∧ 65535 < size - 0
    · rw [chunks_more hc]; simp
    · rw [chunks_one hc]; simp)
  clear e1 e2
  rw [hble] at KB hlen hpos
  clear hble
  go_enter Tryz.func29, Tryz.ntmps29
  go_wp2_with fail
  go_loopg [5, 6, 12] 1 (fun gk v5 v6 v12 wr => gk = 1 ∧ v5 = .slice none 0 0 ∧ v6 = .int .i64 0 ∧ v12 = .int .i64 0 ∧ w = wr)
  case atStart => exact ⟨rfl, rfl, rfl, rfl, rfl⟩
  case round =>
    obtain ⟨_, rfl, rfl, rfl, rfl⟩ := hrel
    by_cases h0 : (0 : Int) < (size : Int)
    · go_wp2_with fail
      refine KB.out.mono ?_
      rintro e w1 ⟨v, rfl, ob⟩
      obtain ⟨a1, c1, hv, hbl, hcap⟩ := ob.rd
      subst hv
      obtain ⟨b, ha⟩ : ∃ b, a1 = some ⟨b, 0, none⟩ := by
        rcases hbl with h | ⟨b, ha, _⟩
        · have := hpos.out
          rw [h] at this
          simp at this
        · exact ⟨b, ha⟩
      subst ha
      have OB := hid ob
      have NEWS := hid (fun j u hj => ob.own.cells (g := b) rfl j u hj)
      have O0 := hid ((OwB.nil w).still ob.touch)
      have O0N := hid (World.ownsRow_nil w1 0 83 4)
      have hl1 := hlen.out
      have hl0 := hpos.out
      have FL := hid (flatB_len bl)
      clear ob hbl KB
      go_wp2_with (at_builtin; refine wpList_append_own_at _ rfl _ _ 78 rfl 0 83 i0 (.agg #[.int .i64 0, .int .i64 0, .int .i64 0, .int .i64 0]) 4 32 Tryz.underlying78 hi73 hz0 hz1 hz2 rfl (by decide) _ _ _ rfl O0N.out ⟨b, 0, none⟩ bl.length c1 (flatB bl) rfl FL.out NEWS.out (flatB_one bl) (by unfold maxLen; omega) (by omega) (Nat.zero_le _) ?_)
      intro v4 w4 hown hgrow _ hat
      have O4 := hid (show OwB w w4 v4 bl from O0.out.app (m := bl) (Touch.refl _ _) (by rw [List.length_nil, Nat.zero_add, show flatB [] = [] from rfl, List.nil_append]; exact hown) hgrow hat)
      obtain ⟨a4, c4, hv4⟩ := own_shapeQ hown
      subst hv4
      clear hown hgrow hat O0 O0N NEWS FL OB hlen hpos hl1 hl0
      go_wp2_with fail
      go_ret
      exact ⟨_, rfl, O4.out⟩
    · obtain rfl : size = 0 := by omega
      clear h0
      have KB0 := hid (show Calls Tryz.prog 42 #[.agg #[.int .i64 0, .int .i64 0, .int .i64 0], .int .i64 0, .int .i64 0] w fun e w' => ∃ v, e = .returned v ∧ OwB w w' v bl from KB.out)
      clear KB
      go_wp2_with fail
      refine KB0.out.mono ?_
      rintro e w1 ⟨v, rfl, ob⟩
      obtain ⟨a1, c1, hv, hbl, hcap⟩ := ob.rd
      subst hv
      obtain ⟨b, ha⟩ : ∃ b, a1 = some ⟨b, 0, none⟩ := by
        rcases hbl with h | ⟨b, ha, _⟩
        · have := hpos.out
          rw [h] at this
          simp at this
        · exact ⟨b, ha⟩
      subst ha
      have OB := hid ob
      have NEWS := hid (fun j u hj => ob.own.cells (g := b) rfl j u hj)
      have O0 := hid ((OwB.nil w).still ob.touch)
      have O0N := hid (World.ownsRow_nil w1 0 83 4)
      have hl1 := hlen.out
      have hl0 := hpos.out
      have FL := hid (flatB_len bl)
      clear ob hbl KB0
      go_wp2_with (at_builtin; refine wpList_append_own_at _ rfl _ _ 78 rfl 0 83 i0 (.agg #[.int .i64 0, .int .i64 0, .int .i64 0, .int .i64 0]) 4 32 Tryz.underlying78 hi73 hz0 hz1 hz2 rfl (by decide) _ _ _ rfl O0N.out ⟨b, 0, none⟩ bl.length c1 (flatB bl) rfl FL.out NEWS.out (flatB_one bl) (by unfold maxLen; omega) (by omega) (Nat.zero_le _) ?_)
      intro v4 w4 hown hgrow _ hat
      have O4 := hid (show OwB w w4 v4 bl from O0.out.app (m := bl) (Touch.refl _ _) (by rw [List.length_nil, Nat.zero_add, show flatB [] = [] from rfl, List.nil_append]; exact hown) hgrow hat)
      obtain ⟨a4, c4, hv4⟩ := own_shapeQ hown
      subst hv4
      clear hown hgrow hat O0 O0N NEWS FL OB hlen hpos hl1 hl0
      go_wp2_with fail
      go_ret
      exact ⟨_, rfl, O4.out⟩
end Go.Proofs.YtffjkceedbblgaaGreatDoor
