/- Texts of this proof, one behind the other: what each says stands ahead of it. -/
import Derived.Test.YtnngemdpoemhgaaDoorM6
import Derived.Test.YtnngemdpoemhgaaDoorM7
import Derived.Test.YtnngemdpoemhgaaDoorM5
import Derived.Deep.RegionLaw
/- spans of the names that the laws ask for, and blanks; no condition. -/
namespace Go.Proofs.YtnngemdpoemhgaaDoor
open Go.RowKit

theorem rg_alloc (w : World) (l : List R2) (t : TypeId) : Rg (w.alloc (.cells (flatR l).toArray t)) (some ⟨w.heap.size, 0, none⟩) l := by
  refine .inr ⟨w.heap.size, 0, rfl, by simp, fun i hi => ?_⟩
  have h0 := row_new w (flatR l) t (2 * i) _ (flatR_get0 l i hi)
  have h1 := row_new w (flatR l) t (2 * i + 1) _ (flatR_get1 l i hi)
  rw [add_g] at h0 h1
  rw [show 0 + i * 2 = 2 * i by omega]
  exact ⟨h0, h1⟩

def lLu : List R2 := [(65, 90), (192, 214), (216, 222), (913, 929), (931, 937), (1040, 1071), (66560, 66599)]
set_option maxRecDepth 100000 in
theorem spans_Lu (w : World) : Calls Tryd.prog 29 #[.string ⟨#[76, 117]⟩] w fun e w' => ∃ a c, e = .returned (.slice a lLu.length c) ∧ Rg w' a lLu ∧ Touch (fun _ => False) w w' := by
  go_enter Tryd.func29, Tryd.ntmps29
  go_wp2
  go_ret
  exact ⟨_, _, rfl, rg_alloc w lLu 76, (Touch.refl _ w).alloc _⟩

def lLl : List R2 := [(97, 122), (181, 181), (223, 246), (248, 255), (383, 383), (945, 969), (1072, 1103), (66600, 66639)]
set_option maxRecDepth 100000 in
theorem spans_Ll (w : World) : Calls Tryd.prog 29 #[.string ⟨#[76, 108]⟩] w fun e w' => ∃ a c, e = .returned (.slice a lLl.length c) ∧ Rg w' a lLl ∧ Touch (fun _ => False) w w' := by
  go_enter Tryd.func29, Tryd.ntmps29
  go_wp2
  go_ret
  exact ⟨_, _, rfl, rg_alloc w lLl 76, (Touch.refl _ w).alloc _⟩

def lLo : List R2 := [(170, 170), (186, 186), (1488, 1514), (12353, 12438), (12449, 12538), (19968, 40959)]
set_option maxRecDepth 100000 in
theorem spans_Lo (w : World) : Calls Tryd.prog 29 #[.string ⟨#[76, 111]⟩] w fun e w' => ∃ a c, e = .returned (.slice a lLo.length c) ∧ Rg w' a lLo ∧ Touch (fun _ => False) w w' := by
  go_enter Tryd.func29, Tryd.ntmps29
  go_wp2
  go_ret
  exact ⟨_, _, rfl, rg_alloc w lLo 76, (Touch.refl _ w).alloc _⟩

def lNd : List R2 := [(48, 57), (1632, 1641), (2406, 2415), (65296, 65305)]
set_option maxRecDepth 100000 in
theorem spans_Nd (w : World) : Calls Tryd.prog 29 #[.string ⟨#[78, 100]⟩] w fun e w' => ∃ a c, e = .returned (.slice a lNd.length c) ∧ Rg w' a lNd ∧ Touch (fun _ => False) w w' := by
  go_enter Tryd.func29, Tryd.ntmps29
  go_wp2
  go_ret
  exact ⟨_, _, rfl, rg_alloc w lNd 76, (Touch.refl _ w).alloc _⟩

def lPc : List R2 := [(95, 95), (8255, 8256)]
set_option maxRecDepth 100000 in
theorem spans_Pc (w : World) : Calls Tryd.prog 29 #[.string ⟨#[80, 99]⟩] w fun e w' => ∃ a c, e = .returned (.slice a lPc.length c) ∧ Rg w' a lPc ∧ Touch (fun _ => False) w w' := by
  go_enter Tryd.func29, Tryd.ntmps29
  go_wp2
  go_ret
  exact ⟨_, _, rfl, rg_alloc w lPc 76, (Touch.refl _ w).alloc _⟩

def lZs : List R2 := [(32, 32), (160, 160), (8192, 8202), (12288, 12288)]
set_option maxRecDepth 100000 in
theorem spans_Zs (w : World) : Calls Tryd.prog 29 #[.string ⟨#[90, 115]⟩] w fun e w' => ∃ a c, e = .returned (.slice a lZs.length c) ∧ Rg w' a lZs ∧ Touch (fun _ => False) w w' := by
  go_enter Tryd.func29, Tryd.ntmps29
  go_wp2
  go_ret
  exact ⟨_, _, rfl, rg_alloc w lZs 76, (Touch.refl _ w).alloc _⟩

def lAny : List R2 := [(0, 1114111)]
set_option maxRecDepth 100000 in
theorem spans_Any (w : World) : Calls Tryd.prog 29 #[.string ⟨#[65, 110, 121]⟩] w fun e w' => ∃ a c, e = .returned (.slice a lAny.length c) ∧ Rg w' a lAny ∧ Touch (fun _ => False) w w' := by
  go_enter Tryd.func29, Tryd.ntmps29
  go_wp2
  go_ret
  exact ⟨_, _, rfl, rg_alloc w lAny 76, (Touch.refl _ w).alloc _⟩

def lBl : List R2 := [(9, 13), (32, 32), (133, 133), (160, 160), (8192, 8202), (8232, 8233), (12288, 12288)]
set_option maxRecDepth 100000 in
theorem blanks_any (w : World) : Calls Tryd.prog 39 #[] w fun e w' => ∃ a c, e = .returned (.slice a lBl.length c) ∧ Rg w' a lBl ∧ Touch (fun _ => False) w w' := by
  go_enter Tryd.func39, Tryd.ntmps39
  go_wp2
  go_ret
  exact ⟨_, _, rfl, rg_alloc w lBl 76, (Touch.refl _ w).alloc _⟩
end Go.Proofs.YtnngemdpoemhgaaDoor

/- setOf of lists of spans: the set of all their numbers; condition: they are few. -/
namespace Go.Proofs.YtnngemdpoemhgaaDoor
open Go.RowKit

set_option maxRecDepth 100000 in
set_option maxHeartbeats 8000000 in
theorem setOf_any (bb cc : Nat) (ls : List (List R2)) (w : World) (hls : Ls w bb ls) (hn : ls.length ≤ 100) (hb : ls.flatten.length ≤ 100000) :
    Calls Tryd.prog 30 #[.slice (some ⟨bb, 0, none⟩) ls.length cc] w fun e w' => ∃ v s, e = .returned v ∧ Canon s ∧ (∀ x, In x s ↔ (0 ≤ x ∧ x ≤ 1114111) ∧ In x ls.flatten) ∧ OwE w w' 33 v s := by
  obtain ⟨i0, hi33, hz0, hz1, hz2⟩ := info_parts info33
  have HLS := hid hls
  clear hls
  go_enter Tryd.func30, Tryd.ntmps30
  go_wp2_with fail
  go_loopg [3, 10] ls.length (fun gk v i wr => ∃ k : Nat, k + gk = ls.length ∧ i = .int .i64 (k : Nat) ∧ OwE w wr 33 v (ls.take k).flatten)
  case atStart => exact ⟨0, by omega, rfl, OwE.nil _ _⟩
  case round =>
    obtain ⟨k, hk, rfl, how⟩ := hrel
    obtain ⟨G, hG⟩ : ∃ G, G = gk := ⟨_, rfl⟩
    have HG := hid hG
    clear hG
    have OW := hid how
    obtain ⟨a3, c3, hv⟩ := own_shape how.own
    subst hv
    by_cases hlt : k < ls.length
    · obtain ⟨a, c, g0, hrg⟩ := (HLS.out.new how.touch).at_ k hlt
      obtain ⟨a', c', g0', hrg0⟩ := HLS.out.at_ k hlt
      have hsame : a' = a := by
        have := (how.touch.cell (p := ⟨bb, k, none⟩) HLS.out.lt id).trans g0'
        rw [g0] at this
        simp only [Option.some.injEq, Value.slice.injEq] at this
        exact this.1.symm
      subst hsame
      have h1 := flat_le ls (k + 1)
      have HST := hid (flat_step ls k hlt)
      have RB := hid hrg0
      have hl2 : ((ls.take k).flatten).length + (ls[k]).length ≤ 100000 := by
        rw [flat_step ls k hlt, List.length_append] at h1
        omega
      generalize (ls.take k).flatten = A at *
      generalize ls[k] = B at *
      have hkI : (k : Int) < (ls.length : Int) := by omega
      clear how hrg h1 hrg0 g0'
      go_wp2_with fail
      go_loopg [3, 16] B.length (fun g2 v i wq => ∃ j : Nat, j + g2 = B.length ∧ i = .int .i64 (j : Nat) ∧ OwE w wq 33 v (A ++ B.take j))
      case atStart => exact ⟨0, by omega, rfl, by rw [List.take_zero, List.append_nil]; exact OW.out⟩
      case round =>
        obtain ⟨j, hj, rfl, how⟩ := hrel
        have OQ := hid how
        obtain ⟨a4, c4, hv4⟩ := own_shape how.own
        subst hv4
        have RQ := hid (RB.out.new how.touch)
        clear how
        by_cases hjl : j < B.length
        · obtain ⟨b, o, ha, hbl, hcell⟩ : ∃ b o, a' = some ⟨b, o, none⟩ ∧ b < wr.heap.size ∧ ∀ i (h : i < B.length), wr.cell? ⟨b, o + i * 2, none⟩ = some (.int .i64 (B[i]).1) ∧ wr.cell? ⟨b, o + i * 2 + 1, none⟩ = some (.int .i64 (B[i]).2) := by
            rcases RQ.out with h | h
            · rw [h] at hjl; simp at hjl
            · exact h
          subst ha
          obtain ⟨d0, d1⟩ := hcell j hjl
          have HT := hid (show B.take (j + 1) = B.take j ++ [B[j]] from List.take_succ_eq_append_getElem hjl)
          have hAl : (A ++ B.take j).length ≤ 100000 := by rw [List.length_append, List.length_take]; omega
          obtain ⟨r, hr⟩ : ∃ r, r = B[j] := ⟨_, rfl⟩
          rw [← hr] at d0 d1 HT
          obtain ⟨x, y⟩ := r
          dsimp only at d0 d1
          obtain ⟨S, hS⟩ : ∃ S, S = A ++ B.take j := ⟨_, rfl⟩
          rw [← hS] at OQ hAl ⊢
          have HSS := hid hS
          have hjI : (j : Int) < (B.length : Int) := by omega
          have B2 := hid (show (wr.alloc (.cells #[.int .i64 x, .int .i64 y] 76)).heap[wr.heap.size]? = some (.cells #[.int .i64 x, .int .i64 y] 76 (0, 0)) from three_new _ _ _)
          have TA := hid ((Touch.refl (fun _ => False) wr).alloc (.cells #[.int .i64 x, .int .i64 y] 76))
          clear hcell hr hS
          go_upto_region 8 with fail
          generalize (wr.alloc (.cells #[.int .i64 x, .int .i64 y] 76)) = wA at *
          have OA := hid (OQ.out.still TA.out)
          have c0 := cell_two0 B2.out
          have c1 := cell_two1 B2.out
          clear d0 d1 OQ
          go_wp2_with (at_builtin; refine wpList_append_own_at _ rfl _ _ 26 rfl 0 33 i0 (.agg #[.int .i64 0, .int .i64 0]) 2 16 Tryd.underlying26 hi33 hz0 hz1 hz2 rfl (by decide) _ _ _ rfl (OA.out.own.alloc _) ⟨wA.heap.size, 0, none⟩ 1 1 [.int .i64 x, .int .i64 y] rfl rfl (row_new wA [.int .i64 x, .int .i64 y] 33) (by intro u hu; simp at hu; rcases hu with rfl | rfl <;> rfl) (by unfold maxLen; omega) (by omega) (Nat.zero_le _) ?_)
          intro v' w4 hown hgrow _ hat
          have OC := hid (OA.out.more (xs := [(x, y)]) hown hgrow hat)
          clear hown hgrow hat
          go_wp2
          go_roundg (gk - 1)
          case measure => omega
          case rel => exact ⟨j + 1, by omega, by go_num, by rw [HT.out, ← List.append_assoc, ← HSS.out]; exact OC.out⟩
        · obtain rfl : j = B.length := by omega
          have OQ2 := hid (show OwE w wr 33 (.slice a4 (A ++ B).length c4) (A ++ B) by have := OQ.out; rw [List.take_length] at this; exact this)
          rw [List.take_length]
          go_wp2_with fail
          go_roundg (G - 1)
          case measure => have := HG.out; omega
          case rel => exact ⟨k + 1, by have := HG.out; omega, by go_num, by rw [HST.out]; exact OQ2.out⟩
    · obtain rfl : k = ls.length := by omega
      rw [List.take_length] at OW ⊢
      obtain ⟨L, hL⟩ : ∃ L, L = ls.flatten := ⟨_, rfl⟩
      rw [← hL] at OW hb ⊢
      obtain ⟨a5, c5, hv5, hrg⟩ := OW.out.rg
      simp only [Value.slice.injEq] at hv5
      obtain ⟨rfl, _, rfl⟩ := hv5
      have K := hid (of_says a3 c3 L wr hrg (by omega))
      have HLF := hid hL
      clear hrg how hL
      go_wp2_with fail
      refine K.out.mono ?_
      rintro e w1 ⟨v, s, rfl, hcn, hin, ow⟩
      have O2 := hid ow
      have HCN := hid hcn
      have HIN := hid hin
      obtain ⟨a2, c2, hav⟩ := own_shape ow.own
      subst hav
      clear ow hcn hin K
      go_wp2
      go_ret
      exact ⟨_, s, rfl, HCN.out, by rw [← HLF.out]; exact HIN.out, ⟨O2.out.own, fun g e => Nat.le_trans OW.out.touch.size (O2.out.new g e), OW.out.touch.trans O2.out.touch (fun _ _ e => e)⟩⟩
end Go.Proofs.YtnngemdpoemhgaaDoor

/- Plain facts: what isn't in a set, and what is in both; no condition beside those told. -/
namespace Go.Proofs.YtnngemdpoemhgaaDoor

def nstep (p : List R2 × Int) (r : R2) : List R2 × Int := (if p.2 < r.1 then p.1 ++ [(p.2, r.1 - 1)] else p.1, r.2 + 1)
def notAcc (s : List R2) : List R2 × Int := s.foldl nstep ([], 0)
def notL (s : List R2) : List R2 := if (notAcc s).2 ≤ 1114111 then (notAcc s).1 ++ [((notAcc s).2, 1114111)] else (notAcc s).1

theorem canon_snoc {o : List R2} {r : R2} (h : Canon o) (hr : inB r) (hq : ∀ q ∈ o, q.2 + 1 < r.1) : Canon (o ++ [r]) := by
  refine ⟨fun q hq' => ?_, ?_⟩
  · rcases List.mem_append.1 hq' with k | k
    · exact h.in_ q k
    · simp only [List.mem_singleton] at k
      rw [k]
      exact hr
  · rw [List.pairwise_append]
    refine ⟨h.up, List.pairwise_singleton _ _, fun a ha b hb => ?_⟩
    simp only [List.mem_singleton] at hb
    rw [hb]
    exact hq a ha

theorem not_good : ∀ (m o : List R2) (n : Int), Canon o → (∀ q ∈ o, q.2 + 1 < n) → 0 ≤ n → n ≤ 1114112 → (∀ r ∈ m, inB r) → m.Pairwise (fun a b => a.2 + 1 < b.1) → (∀ r ∈ m, n ≤ r.1) →
    Canon (m.foldl nstep (o, n)).1 ∧ (∀ q ∈ (m.foldl nstep (o, n)).1, q.2 + 1 < (m.foldl nstep (o, n)).2) ∧ n ≤ (m.foldl nstep (o, n)).2 ∧ (m.foldl nstep (o, n)).2 ≤ 1114112 ∧ (∀ r ∈ m, r.2 < (m.foldl nstep (o, n)).2) ∧
      ∀ x, In x (m.foldl nstep (o, n)).1 ↔ In x o ∨ (n ≤ x ∧ x < (m.foldl nstep (o, n)).2 ∧ ¬ In x m)
  | [], o, n, hc, hq, h0, h1, _, _, _ => ⟨hc, hq, Int.le_refl _, h1, by simp, fun x => by
      simp only [List.foldl_nil]
      constructor
      · exact .inl
      · rintro (h | h)
        · exact h
        · omega⟩
  | (a, b) :: m, o, n, hc, hq, h0, h1, hin, hup, hle => by
    have hp := List.pairwise_cons.1 hup
    have hr := hin (a, b) (by simp)
    have hn := hle (a, b) (by simp)
    unfold inB at hr
    dsimp only at hr hn hp
    have key : Canon (nstep (o, n) (a, b)).1 ∧ (∀ q ∈ (nstep (o, n) (a, b)).1, q.2 + 1 < b + 1) ∧ ∀ x, In x (nstep (o, n) (a, b)).1 ↔ In x o ∨ (n ≤ x ∧ x < a) := by
      unfold nstep
      dsimp only
      by_cases c : n < a
      · rw [if_pos c]
        refine ⟨canon_snoc hc (by unfold inB; dsimp only; omega) hq, fun q hq' => ?_, fun x => ?_⟩
        · rcases List.mem_append.1 hq' with k | k
          · have := hq q k
            omega
          · simp only [List.mem_singleton] at k
            rw [k]
            dsimp only
            omega
        · rw [in_append, in_one]
          dsimp only
          constructor
          · rintro (h | h)
            · exact .inl h
            · exact .inr (by omega)
          · rintro (h | h)
            · exact .inl h
            · exact .inr (by omega)
      · rw [if_neg c]
        refine ⟨hc, fun q hq' => by have := hq q hq'; omega, fun x => ?_⟩
        constructor
        · exact .inl
        · rintro (h | h)
          · exact h
          · omega
    obtain ⟨k1, k2, k3⟩ := key
    have ih := not_good m (nstep (o, n) (a, b)).1 (b + 1) k1 k2 (by omega) (by omega) (fun r hr' => hin r (by simp [hr'])) hp.2 (fun r hr' => by have := hp.1 r hr'; omega)
    have e : ((a, b) :: m).foldl nstep (o, n) = m.foldl nstep ((nstep (o, n) (a, b)).1, b + 1) := rfl
    rw [e]
    obtain ⟨i1, i2, i3, i4, i5, i6⟩ := ih
    refine ⟨i1, i2, by omega, i4, fun r hr' => ?_, fun x => ?_⟩
    · rcases List.mem_cons.1 hr' with k | k
      · rw [k]
        dsimp only
        omega
      · exact i5 r k
    · rw [i6 x, k3 x, in_cons]
      dsimp only
      have above : In x m → b + 1 < x := fun ⟨r, hr', h1', _⟩ => by have := hp.1 r hr'; omega
      constructor
      · rintro ((h | h) | h)
        · exact .inl h
        · refine .inr ⟨h.1, by omega, ?_⟩
          rintro (k | k)
          · omega
          · have := above k; omega
        · refine .inr ⟨by omega, h.2.1, ?_⟩
          rintro (k | k)
          · omega
          · exact h.2.2 k
      · rintro (h | h)
        · exact .inl (.inl h)
        · rcases Int.lt_or_le x a with k | k
          · exact .inl (.inr ⟨h.1, k⟩)
          · rcases Int.lt_or_le b x with q | q
            · exact .inr ⟨by omega, h.2.1, fun hm => h.2.2 (.inr hm)⟩
            · exact absurd (.inl ⟨k, q⟩) h.2.2

theorem notL_good {s : List R2} (hs : Canon s) : Canon (notL s) ∧ ∀ x, In x (notL s) ↔ (0 ≤ x ∧ x ≤ 1114111) ∧ ¬ In x s := by
  obtain ⟨h1, h2, h3, h4, h5, h6⟩ := not_good s [] 0 ⟨by simp, .nil⟩ (by simp) (by omega) (by omega) hs.in_ hs.up (fun r hr => (hs.in_ r hr).1)
  have up : ∀ x, In x s → x < (notAcc s).2 ∧ 0 ≤ x := fun x ⟨r, hr, k1, k2⟩ => by
    have := h5 r hr
    have := (hs.in_ r hr).1
    unfold notAcc
    omega
  have h6' : ∀ x, In x (notAcc s).1 ↔ (0 ≤ x ∧ x < (notAcc s).2 ∧ ¬ In x s) := fun x => by
    have := h6 x
    simp only [in_nil, false_or] at this
    exact this
  have h4' : (notAcc s).2 ≤ 1114112 := h4
  have h3' : 0 ≤ (notAcc s).2 := h3
  unfold notL
  by_cases c : (notAcc s).2 ≤ 1114111
  · rw [if_pos c]
    refine ⟨canon_snoc h1 (by unfold inB; dsimp only; omega) h2, fun x => ?_⟩
    rw [in_append, in_one, h6' x]
    dsimp only
    constructor
    · rintro (h | h)
      · exact ⟨by omega, h.2.2⟩
      · exact ⟨by omega, fun k => by have := up x k; omega⟩
    · rintro ⟨h, k⟩
      rcases Int.lt_or_le x (notAcc s).2 with q | q
      · exact .inl ⟨h.1, q, k⟩
      · exact .inr (by omega)
  · rw [if_neg c]
    refine ⟨h1, fun x => ?_⟩
    rw [h6' x]
    constructor
    · intro h
      exact ⟨by omega, h.2.2⟩
    · intro h
      exact ⟨by omega, by omega, h.2⟩

/-- What is in both. -/
def andL : List R2 → List R2 → List R2
  | [], _ => []
  | _ :: _, [] => []
  | a :: s, b :: t => (if max a.1 b.1 ≤ min a.2 b.2 then [(max a.1 b.1, min a.2 b.2)] else []) ++ (if a.2 < b.2 then andL s (b :: t) else andL (a :: s) t)
termination_by s t => s.length + t.length

theorem Canon.tail {a : R2} {s : List R2} (h : Canon (a :: s)) : Canon s := ⟨fun r hr => h.in_ r (by simp [hr]), (List.pairwise_cons.1 h.up).2⟩
theorem Canon.above {a : R2} {s : List R2} (h : Canon (a :: s)) {x : Int} (hx : In x s) : a.2 + 1 < x := by
  obtain ⟨r, hr, h1, _⟩ := hx
  have := (List.pairwise_cons.1 h.up).1 r hr
  omega

theorem andL_good : ∀ (s t : List R2), Canon s → Canon t → Canon (andL s t) ∧ ∀ x, In x (andL s t) ↔ In x s ∧ In x t
  | [], t, _, _ => by
    rw [andL]
    exact ⟨⟨by simp, .nil⟩, fun x => ⟨fun h => absurd h (in_nil x), fun h => absurd h.1 (in_nil x)⟩⟩
  | _ :: _, [], _, _ => by
    rw [andL]
    exact ⟨⟨by simp, .nil⟩, fun x => ⟨fun h => absurd h (in_nil x), fun h => absurd h.2 (in_nil x)⟩⟩
  | (a, b) :: s, (c, d) :: t, hs, ht => by
    have hi := hs.in_ (a, b) (by simp)
    have hj := ht.in_ (c, d) (by simp)
    unfold inB at hi hj
    dsimp only at hi hj
    have aS : ∀ x, In x s → b + 1 < x := fun x h => hs.above h
    have aT : ∀ x, In x t → d + 1 < x := fun x h => ht.above h
    rw [andL]
    dsimp only
    obtain ⟨R, hR, g1, g2⟩ : ∃ R, R = (if b < d then andL s ((c, d) :: t) else andL ((a, b) :: s) t) ∧ Canon R ∧ ∀ x, In x R ↔ (In x ((a, b) :: s) ∧ In x ((c, d) :: t)) ∧ min b d < x := by
      by_cases k : b < d
      · obtain ⟨h1, h2⟩ := andL_good s ((c, d) :: t) hs.tail ht
        refine ⟨_, rfl, by rw [if_pos k]; exact h1, fun x => ?_⟩
        rw [if_pos k, h2 x, in_cons, in_cons]
        dsimp only
        constructor
        · rintro ⟨p, q⟩
          have := aS x p
          exact ⟨⟨.inr p, q⟩, by omega⟩
        · rintro ⟨⟨p, q⟩, r⟩
          rcases p with p | p
          · omega
          · exact ⟨p, q⟩
      · obtain ⟨h1, h2⟩ := andL_good ((a, b) :: s) t hs ht.tail
        refine ⟨_, rfl, by rw [if_neg k]; exact h1, fun x => ?_⟩
        rw [if_neg k, h2 x, in_cons, in_cons]
        dsimp only
        constructor
        · rintro ⟨p, q⟩
          have := aT x q
          exact ⟨⟨p, .inr q⟩, by omega⟩
        · rintro ⟨⟨p, q⟩, r⟩
          rcases q with q | q
          · omega
          · exact ⟨p, q⟩
    rw [← hR]
    have low : ∀ x, In x R → min b d + 1 < x := fun x h => by
      obtain ⟨⟨p, q⟩, r⟩ := (g2 x).1 h
      rcases in_cons.1 p with p | p <;> rcases in_cons.1 q with q | q
      · dsimp only at p q; omega
      · have := aT x q; dsimp only at p; omega
      · have := aS x p; dsimp only at q; omega
      · have := aS x p; have := aT x q; omega
    have iff : ∀ x, (In x ((a, b) :: s) ∧ In x ((c, d) :: t)) ↔ (max a c ≤ x ∧ x ≤ min b d) ∨ In x R := fun x => by
      rw [g2 x]
      constructor
      · rintro ⟨p, q⟩
        rcases Int.lt_or_le (min b d) x with k | k
        · exact .inr ⟨⟨p, q⟩, k⟩
        · left
          rcases in_cons.1 p with p' | p'
          · rcases in_cons.1 q with q' | q'
            · dsimp only at p' q'; omega
            · have := aT x q'; dsimp only at p'; omega
          · have := aS x p'
            rcases in_cons.1 q with q' | q'
            · dsimp only at q'; omega
            · have := aT x q'; omega
      · rintro (h | h)
        · exact ⟨in_cons.2 (.inl (by dsimp only; omega)), in_cons.2 (.inl (by dsimp only; omega))⟩
        · exact h.1
    by_cases e : max a c ≤ min b d
    · rw [if_pos e]
      refine ⟨⟨fun r hr => ?_, ?_⟩, fun x => ?_⟩
      · rcases List.mem_append.1 hr with k | k
        · simp only [List.mem_singleton] at k
          rw [k]
          unfold inB
          dsimp only
          omega
        · exact g1.in_ r k
      · rw [List.singleton_append, List.pairwise_cons]
        refine ⟨fun r hr => ?_, g1.up⟩
        have hri := g1.in_ r hr
        unfold inB at hri
        exact low r.1 ⟨r, hr, Int.le_refl _, hri.2.1⟩
      · rw [in_append, in_one, iff x]
    · rw [if_neg e, List.nil_append]
      refine ⟨g1, fun x => ?_⟩
      rw [iff x]
      constructor
      · exact .inr
      · rintro (h | h)
        · omega
        · exact h
termination_by s t => s.length + t.length
end Go.Proofs.YtnngemdpoemhgaaDoor

/- speaks of the laws on sets, and an append as a step; no condition. -/
namespace Go.Proofs.YtnngemdpoemhgaaDoor
open Go.RowKit

theorem step_append_own {P : Program} (w : World) {ops : Array Oper} {o : Oper} {a : Act} {K : Act → World → Prop} {Q : Exit → Act → World → Prop} {E : Prop} (hgd : o.guard = none) (s x : Operand) (t : TypeId)
    (ho : o.op = .call { callee := .builtin .append, args := #[s, x], argTypes := #[t, t] })
    (base : Nat) (e : TypeId) (i : TypeInfo) (z : Value) (size bytes : Nat) (ht : P.underlying t = some (.slice e)) (hi : P.info? e = some i) (hz : i.zero = some z)
    (hsize : i.size = size) (hby : i.bytes = bytes) (hzs : z.cells.size = size) (hsz : 0 < size)
    (v : Value) (n : Nat) (xs : List Value) (hs : a.eval s = v) (hown : w.ownsRow base e size v n xs)
    (ad : Addr) (m c : Nat) (news : List Value) (hx : a.eval x = .slice (some ad) m c) (hl : news.length = m * size) (hnews : ∀ j u, news[j]? = some u → w.cell? (ad.add j) = some u) (h1 : ∀ u ∈ news, u.oneCell' = true)
    (h63 : n + m ≤ maxLen) (hbytes : (n + m) * bytes ≤ 140737488355328) (hbase : base ≤ w.heap.size) (H : Nat) (hH : w.heap.size = H)
    (h : ∀ v' w', w'.ownsRow base e size v' (n + m) (xs ++ news) → w.grownBy w' v.ownBlock → (v'.ownBlock = v.ownBlock ∨ v'.ownBlock = some H) → K (a.put o.dst v') w') :
    if Region.wanted o (yielded ops a.tmps) = true then Oper.wp P o a w K Q else E := by
  have hw : Region.wanted o (yielded ops a.tmps) = true := by simp [Region.wanted, hgd]
  rw [if_pos hw]
  obtain ⟨v', w', hr, h2, h3, h4, h5⟩ := run_append_own_at (P := P) w base t o.type e i z size bytes ht hi hz hsize hby hzs hsz v n xs hown ad m c news hl hnews h1 h63 hbytes hbase
  unfold Oper.wp execOp
  simp only [ho, resolve, invoke, builtin, Sem.run_bind, Sem.run_pure, Result.andThen_ok, List.map_toArray, List.map_cons, List.map_nil, hs, hx, hr]
  exact h v' w' h2 h3 (by rw [← hH]; exact h5)

theorem nine : ∀ x, In x [((1 : Int), (9 : Int))] ↔ (0 ≤ x ∧ x ≤ 1114111) ∧ In x [((5 : Int), (9 : Int)), (1, 2), (3, 4)] := by
  intro x
  simp only [in_cons, in_nil, or_false]
  omega
theorem nine_canon : Canon [((1 : Int), (9 : Int))] := ⟨by simp [inB], List.pairwise_singleton _ _⟩

end Go.Proofs.YtnngemdpoemhgaaDoor
