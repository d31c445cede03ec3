/- Texts of this proof, one behind the other: what each says stands ahead of it. -/
import Derived.Test.YtnngemdpoemhgaaDoorM0
import Derived.Test.YtnngemdpoemhgaaDoorM5
import Derived.Test.YtnngemdpoemhgaaDoorM3
import Derived.Test.YtnngemdpoemhgaaDoorM2
/- The search for the range in which a number may be; no condition. -/
namespace Go.Proofs.YtnngemdpoemhgaaDoor
open Go.RowKit

set_option maxRecDepth 100000 in
set_option maxHeartbeats 4000000 in
theorem closure29 (br bs : Nat) (r : Int) (a : Option Addr) (cap : Nat) (s : List R2) (i : Nat) (hi : i < s.length) (y : Int) (hy : y = s[i].2) (w : World) (hr : w.cell? ⟨br, 0, none⟩ = some (.int .i64 r)) (hs : w.cell? ⟨bs, 0, none⟩ = some (.slice a s.length cap)) (hl : Rg w a s) :
    Calls Tryd.prog 38 (#[.int .i64 i] ++ #[.pointer (some ⟨br, 0, none⟩), .pointer (some ⟨bs, 0, none⟩)]) w fun e w' => e = .returned (.bool (decide (r ≤ y))) ∧ Touch (fun _ => False) w w' := by
  obtain ⟨b, o, rfl, _, hcell⟩ : ∃ b o, a = some ⟨b, o, none⟩ ∧ b < w.heap.size ∧ ∀ i (h : i < s.length), w.cell? ⟨b, o + i * 2, none⟩ = some (.int .i64 (s[i]).1) ∧ w.cell? ⟨b, o + i * 2 + 1, none⟩ = some (.int .i64 (s[i]).2) := by
    rcases hl with h | h
    · rw [h] at hi; simp at hi
    · exact h
  obtain ⟨d0, d1⟩ := hcell i hi
  generalize s[i].1 = x at d0
  rw [← hy] at d1
  clear hy
  have hiI : (i : Int) < (s.length : Int) := by omega
  clear hcell
  go_enter Tryd.func38, Tryd.ntmps38
  go_wp2_with fail
  go_quiet (fail)
  go_wp2
  go_ret
  exact ⟨rfl, (Touch.refl _ _).drewN _⟩

set_option maxRecDepth 100000 in
set_option maxHeartbeats 4000000 in
theorem search_any (br bs : Nat) (r : Int) (a : Option Addr) (cap : Nat) (s : List R2) (w : World) (hbr : br < w.heap.size) (hbs : bs < w.heap.size) (hr : w.cell? ⟨br, 0, none⟩ = some (.int .i64 r)) (hs : w.cell? ⟨bs, 0, none⟩ = some (.slice a s.length cap)) (hl : Rg w a s)
    (hmono : ∀ i j (hi : i < s.length) (hj : j < s.length), i ≤ j → s[i].2 ≤ s[j].2) (hb : s.length ≤ 4194304) :
    Calls Tryd.prog 37 #[.int .i64 s.length, .func (.func 38) #[] #[.pointer (some ⟨br, 0, none⟩), .pointer (some ⟨bs, 0, none⟩)]] w fun e w' => ∃ k : Nat, e = .returned (.int .i64 k) ∧ k ≤ s.length ∧ (∀ t (_ : t < k) (hl : t < s.length), ¬ r ≤ s[t].2) ∧ (∀ t (_ : k ≤ t) (hl : t < s.length), r ≤ s[t].2) ∧ Touch (fun _ => False) w w' := by
  have HC := hid (fun (wq : World) (tc : Touch (fun _ => False) w wq) (i : Nat) (hi : i < s.length) (y : Int) (hy : y = s[i].2) => closure29 br bs r a cap s i hi y hy wq ((tc.cell (p := ⟨br, 0, none⟩) hbr id).trans hr) ((tc.cell (p := ⟨bs, 0, none⟩) hbs id).trans hs) (hl.new tc))
  have M := hid hmono
  clear hr hs hl hmono hbr hbs
  go_enter Tryd.func37, Tryd.ntmps37
  go_wp2_with fail
  go_loopg [5, 6] s.length (fun gk x y wr => ∃ lo hi : Nat, x = .int .i64 lo ∧ y = .int .i64 hi ∧ lo ≤ hi ∧ hi ≤ s.length ∧ hi - lo ≤ gk ∧ Hid ((∀ t (_ : t < lo) (hl : t < s.length), ¬ r ≤ s[t].2) ∧ (∀ t (_ : hi ≤ t) (hl : t < s.length), r ≤ s[t].2)) ∧ Touch (fun _ => False) w wr)
  case atStart => exact ⟨0, s.length, rfl, rfl, Nat.zero_le _, Nat.le_refl _, by omega, hid ⟨fun t ht => absurd ht (Nat.not_lt_zero _), fun t h1 h2 => by omega⟩, Touch.refl _ _⟩
  case round =>
    obtain ⟨lo, hi, rfl, rfl, hlh, hin, hg, I, htc⟩ := hrel
    have TC := hid htc
    clear htc
    by_cases hlt : lo < hi
    · have hmid : (lo + hi) / 2 < s.length := by omega
      have HMID := hid hmid
      obtain ⟨y, hy⟩ : ∃ y, y = s[(lo + hi) / 2].2 := ⟨_, rfl⟩
      have hc := HC.out wr TC.out ((lo + hi) / 2) hmid y hy
      rw [show (((lo + hi) / 2 : Nat) : Int) = ((lo : Int) + (hi : Int)) / 2 by omega] at hc
      have HY := hid hy
      clear hy hmid
      by_cases hp : r ≤ y
      · rw [decide_eq_true hp] at hc
        have HP := hid hp
        clear hp
        go_wp2_with fail
        refine hc.mono ?_
        rintro e w' ⟨rfl, tc⟩
        have T2 := hid (TC.out.trans tc (fun _ _ e => e))
        clear tc hc
        go_wp2_with fail
        go_roundg ((lo + hi) / 2 - lo)
        case measure => omega
        case rel =>
          exact ⟨lo, (lo + hi) / 2, rfl, by rw [show ((lo : Int) + (hi : Int)) / 2 = (((lo + hi) / 2 : Nat) : Int) by omega], by omega, by omega, Nat.le_refl _, hid ⟨I.out.1, fun t ht htl => by have h1 := M.out _ t HMID.out htl ht; have h2 := HP.out; rw [HY.out] at h2; omega⟩, T2.out⟩
      · rw [decide_eq_false hp] at hc
        have HP := hid hp
        clear hp
        go_wp2_with fail
        refine hc.mono ?_
        rintro e w' ⟨rfl, tc⟩
        have T2 := hid (TC.out.trans tc (fun _ _ e => e))
        clear tc hc
        go_wp2_with fail
        go_roundg (hi - ((lo + hi) / 2 + 1))
        case measure => omega
        case rel =>
          exact ⟨(lo + hi) / 2 + 1, hi, by rw [show ((lo : Int) + (hi : Int)) / 2 + 1 = (((lo + hi) / 2 + 1 : Nat) : Int) by omega], rfl, by omega, hin, Nat.le_refl _, hid ⟨fun t ht htl => by have h1 := M.out t _ htl HMID.out (by omega); have h2 := HP.out; rw [HY.out] at h2; omega, I.out.2⟩, T2.out⟩
    · obtain rfl : hi = lo := by omega
      go_wp2
      go_ret
      exact ⟨hi, rfl, hin, I.out.1, I.out.2, TC.out⟩
end Go.Proofs.YtnngemdpoemhgaaDoor

/- Where a number would be in a list of ranges that rises, plain facts; no condition beside those told. -/
namespace Go.Proofs.YtnngemdpoemhgaaDoor

theorem canon_lt {s : List R2} (h : Canon s) (i j : Nat) (hi : i < s.length) (hj : j < s.length) (hij : i < j) : s[i].2 + 1 < s[j].1 := (List.pairwise_iff_getElem.1 h.up) i j hi hj hij
theorem canon_mono {s : List R2} (h : Canon s) (i j : Nat) (hi : i < s.length) (hj : j < s.length) (hij : i ≤ j) : s[i].2 ≤ s[j].2 := by
  rcases Nat.lt_or_ge i j with k | k
  · have h1 := canon_lt h i j hi hj k
    have h2 := h.in_ s[j] (List.getElem_mem _)
    unfold inB at h2
    omega
  · obtain rfl : i = j := by omega
    exact Int.le_refl _
theorem has_none {s : List R2} (x : Int) (h1 : ∀ t (hl : t < s.length), ¬ x ≤ s[t].2) : hasB x s = false := by
  rw [← Bool.not_eq_true, hasB_iff]
  rintro ⟨r, hr, _, k⟩
  obtain ⟨t, ht, rfl⟩ := List.getElem_of_mem hr
  exact h1 t ht k
theorem has_at {s : List R2} (h : Canon s) (x : Int) (k : Nat) (hk : k < s.length) (h1 : ∀ t (_ : t < k) (hl : t < s.length), ¬ x ≤ s[t].2) (h2 : x ≤ s[k].2) : hasB x s = decide (s[k].1 ≤ x) := by
  refine hasB_eq ?_
  rw [decide_eq_true_eq]
  constructor
  · rintro ⟨r, hr, k1, k2⟩
    obtain ⟨t, ht, rfl⟩ := List.getElem_of_mem hr
    rcases Nat.lt_trichotomy t k with q | q | q
    · exact absurd k2 (h1 t q ht)
    · subst q
      exact k1
    · have := canon_lt h k t hk ht q
      omega
  · exact fun q => ⟨s[k], List.getElem_mem _, q, h2⟩
end Go.Proofs.YtnngemdpoemhgaaDoor

/- Has of a set: what it answers; no condition beside those told. -/
namespace Go.Proofs.YtnngemdpoemhgaaDoor
open Go.RowKit

theorem box_new (w : World) (v : Value) (t : TypeId) : (w.alloc (.cells #[v] t)).cell? ⟨w.heap.size, 0, none⟩ = some v := by
  rw [World.cell?_alloc_at _ _ _ _ (by simp)]; rfl

set_option maxRecDepth 100000 in
set_option maxHeartbeats 4000000 in
theorem has_says (a : Option Addr) (cap : Nat) (s : List R2) (r : Int) (w : World) (hl : Rg w a s) (hs : Canon s) :
    Calls Tryd.prog 15 #[.slice a s.length cap, .int .i64 r] w fun e w' => e = .returned (.bool (hasB r s)) ∧ Touch (fun _ => False) w w' := by
  have HL := hid hl
  have HS := hid hs
  have hb := canon_len hs
  have K := hid (fun (wq : World) h1 h2 h3 h4 h5 => search_any (w.heap.size + 1) w.heap.size r a cap s wq h1 h2 h3 h4 h5 (canon_mono hs) (by omega))
  have T2 := hid (((Touch.refl (fun _ => False) w).alloc (.cells #[.slice a s.length cap] 27)).alloc (.cells #[.int .i64 r] 3))
  clear hl hs
  go_enter Tryd.func15, Tryd.ntmps15
  go_wp2_with fail
  have q1 : ((w.alloc (.cells #[.slice a s.length cap] 27)).alloc (.cells #[.int .i64 r] 3)).cell? ⟨w.heap.size, 0, none⟩ = some (.slice a s.length cap) := (((Touch.refl (fun _ => False) _).alloc _).cell (p := ⟨w.heap.size, 0, none⟩) (by simp) id).trans (box_new _ _ _)
  have q2 : ((w.alloc (.cells #[.slice a s.length cap] 27)).alloc (.cells #[.int .i64 r] 3)).cell? ⟨w.heap.size + 1, 0, none⟩ = some (.int .i64 r) := by
    have := box_new (w.alloc (.cells #[.slice a s.length cap] 27)) (.int .i64 r) 3
    rw [show (w.alloc (.cells #[.slice a s.length cap] 27)).heap.size = w.heap.size + 1 by simp] at this
    exact this
  have z2 : w.heap.size + 1 < ((w.alloc (.cells #[.slice a s.length cap] 27)).alloc (.cells #[.int .i64 r] 3)).heap.size := by simp
  generalize ((w.alloc (.cells #[.slice a s.length cap] 27)).alloc (.cells #[.int .i64 r] 3)) = w2 at *
  have z1 : w.heap.size < w2.heap.size := Nat.lt_of_succ_lt z2
  refine (K.out w2 z2 z1 q2 q1 (HL.out.new T2.out)).mono ?_
  rintro e w3 ⟨k, rfl, hk, h1, h2, tc⟩
  have T3 := hid (T2.out.trans tc (fun _ _ e => e))
  have p1 := (tc.cell (p := ⟨w.heap.size, 0, none⟩) z1 id).trans q1
  have p2 := (tc.cell (p := ⟨w.heap.size + 1, 0, none⟩) z2 id).trans q2
  have R3 := hid (HL.out.new T3.out)
  clear tc q1 q2 z1 z2 K
  by_cases hlt : k < s.length
  · have HX := hid (has_at HS.out r k hlt (fun t p q => by have := h1 t p q; omega) (h2 k (Nat.le_refl _) hlt))
    obtain ⟨b, o, ha, hbl, hcell⟩ : ∃ b o, a = some ⟨b, o, none⟩ ∧ b < w3.heap.size ∧ ∀ i (h : i < s.length), w3.cell? ⟨b, o + i * 2, none⟩ = some (.int .i64 (s[i]).1) ∧ w3.cell? ⟨b, o + i * 2 + 1, none⟩ = some (.int .i64 (s[i]).2) := by
      rcases R3.out with h | h
      · rw [h] at hlt; simp at hlt
      · exact h
    subst ha
    obtain ⟨d0, d1⟩ := hcell k hlt
    obtain ⟨x, hx⟩ : ∃ x, x = s[k].1 := ⟨_, rfl⟩
    rw [← hx] at d0 HX
    have hkI : (k : Int) < (s.length : Int) := by omega
    have hd : decide ((k : Int) < (s.length : Int)) = true := decide_eq_true hkI
    clear hcell hx h1 h2 d1
    go_wp2_with fail
    go_quiet (fail)
    go_wp2
    go_ret
    rw [HX.out]
    exact ⟨rfl, T3.out.drewN _⟩
  · have HX := hid (has_none (s := s) r (fun t ht => by have := h1 t (by omega) ht; omega))
    have hd : decide ((k : Int) < (s.length : Int)) = false := decide_eq_false (by omega)
    clear h1 h2
    go_wp2_with fail
    go_quiet (fail)
    go_wp2
    go_ret
    rw [HX.out]
    exact ⟨rfl, T3.out.drewN _⟩
end Go.Proofs.YtnngemdpoemhgaaDoor

/- Size of a set; no condition beside those told. -/
namespace Go.Proofs.YtnngemdpoemhgaaDoor
open Go.RowKit

theorem size_take {s : List R2} (hs : ∀ r ∈ s, inB r) : ∀ k, k ≤ s.length → 0 ≤ sizeL (s.take k) ∧ sizeL (s.take k) ≤ 1114112 * (k : Int)
  | 0, _ => by simp [sizeL]
  | k + 1, h => by
    have h1 := size_take hs k (by omega)
    have h2 := hs s[k] (List.getElem_mem _)
    unfold inB at h2
    rw [List.take_succ_eq_append_getElem (by omega), sizeL_append, sizeL_cons, sizeL_nil]
    omega
theorem size_step {s : List R2} {k : Nat} (h : k < s.length) : sizeL (s.take (k + 1)) = sizeL (s.take k) + ((s[k]).2 - (s[k]).1 + 1) := by
  rw [List.take_succ_eq_append_getElem h, sizeL_append, sizeL_cons, sizeL_nil]
  omega

set_option maxRecDepth 100000 in
set_option maxHeartbeats 4000000 in
theorem size_any (a : Option Addr) (cap : Nat) (s : List R2) (w : World) (hl : Rg w a s) (hs : ∀ r ∈ s, inB r) (hb : s.length ≤ 1048576) :
    Calls Tryd.prog 16 #[.slice a s.length cap] w fun e w' => e = .returned (.int .i64 (sizeL s)) ∧ Touch (fun _ => False) w w' := by
  have HL := hid hl
  have HS := hid hs
  clear hl hs
  go_enter Tryd.func16, Tryd.ntmps16
  go_wp2_with fail
  go_loopg [3, 8] s.length (fun gk n i wr => ∃ k : Nat, k + gk = s.length ∧ i = .int .i64 (k : Nat) ∧ n = .int .i64 (sizeL (s.take k)) ∧ Touch (fun _ => False) w wr)
  case atStart => exact ⟨0, by omega, rfl, rfl, Touch.refl _ _⟩
  case round =>
    obtain ⟨k, hk, rfl, rfl, htc⟩ := hrel
    have TC := hid htc
    have R1 := hid (HL.out.new htc)
    clear htc
    have hsz := size_take HS.out k (by omega)
    by_cases hlt : k < s.length
    · obtain ⟨b, o, ha, hbl, hcell⟩ : ∃ b o, a = some ⟨b, o, none⟩ ∧ b < wr.heap.size ∧ ∀ i (h : i < s.length), wr.cell? ⟨b, o + i * 2, none⟩ = some (.int .i64 (s[i]).1) ∧ wr.cell? ⟨b, o + i * 2 + 1, none⟩ = some (.int .i64 (s[i]).2) := by
        rcases R1.out with h | h
        · rw [h] at hlt; simp at hlt
        · exact h
      subst ha
      obtain ⟨d0, d1⟩ := hcell k hlt
      have hr1 := HS.out s[k] (List.getElem_mem _)
      unfold inB at hr1
      have HST := hid (size_step hlt)
      obtain ⟨r, hr⟩ : ∃ r, r = s[k] := ⟨_, rfl⟩
      rw [← hr] at d0 d1 hr1 HST
      obtain ⟨x, y⟩ := r
      dsimp only at d0 d1 hr1 HST
      obtain ⟨z, hz⟩ : ∃ z, z = sizeL (s.take k) := ⟨_, rfl⟩
      rw [← hz] at HST hsz ⊢
      clear hcell hr R1 hz
      go_wp2_with fail
      go_roundg (gk - 1)
      case measure => omega
      case rel => exact ⟨k + 1, by omega, by go_num, by rw [HST.out], by first | exact (TC.out.alloc _) | exact ((TC.out.alloc _).drewN _)⟩
    · obtain rfl : k = s.length := by omega
      rw [List.take_length]
      go_wp2
      go_ret
      exact ⟨rfl, TC.out⟩

theorem size_says (a : Option Addr) (cap : Nat) (s : List R2) (w : World) (hl : Rg w a s) (hs : Canon s) :
    Calls Tryd.prog 16 #[.slice a s.length cap] w fun e w' => e = .returned (.int .i64 (sizeL s)) ∧ Touch (fun _ => False) w w' :=
  size_any a cap s w hl hs.in_ (by have := canon_len hs; omega)
end Go.Proofs.YtnngemdpoemhgaaDoor

/- Or of two sets: what it answers; no condition beside those told. -/
namespace Go.Proofs.YtnngemdpoemhgaaDoor
open Go.RowKit

set_option maxRecDepth 100000 in
set_option maxHeartbeats 4000000 in
theorem or_says (a1 a2 : Option Addr) (c1 c2 : Nat) (s t : List R2) (w : World) (h1 : Rg w a1 s) (h2 : Rg w a2 t) (hs : Canon s) (ht : Canon t) :
    Calls Tryd.prog 20 #[.slice a1 s.length c1, .slice a2 t.length c2] w fun e w' => ∃ v n, e = .returned v ∧ Canon n ∧ (∀ x, In x n ↔ In x s ∨ In x t) ∧ OwE w w' 33 v n := by
  have l1 := canon_len hs
  have l2 := canon_len ht
  have H1 := hid h1
  have H2 := hid h2
  have HS := hid hs
  have HT := hid ht
  have T0 := hid ((Touch.refl (fun _ => False) w).alloc (.cells #[.slice a1 s.length c1, .slice a2 t.length c2] 27))
  have B := hid (show (w.alloc (.cells #[.slice a1 s.length c1, .slice a2 t.length c2] 27)).heap[w.heap.size]? = some (.cells #[.slice a1 s.length c1, .slice a2 t.length c2] 27 (0, 0)) from by show (w.heap.push _)[_]? = _; simp)
  clear h1 h2 hs ht
  go_enter Tryd.func20, Tryd.ntmps20
  go_wp2_with fail
  generalize (w.alloc (.cells #[.slice a1 s.length c1, .slice a2 t.length c2] 27)) = w1 at *
  refine (concat_any w.heap.size a1 a2 c1 c2 s t w1 (lt_of_block B.out) (cell_two0 B.out) (cell_two1 B.out) (H1.out.new T0.out) (H2.out.new T0.out) (by omega)).mono ?_
  rintro e w2 ⟨v, rfl, hown, hnew, tc⟩
  have T2 := hid (T0.out.trans tc (fun _ _ e => e))
  have hlen : (s ++ t).length = s.length + t.length := List.length_append
  obtain ⟨u, hu⟩ : ∃ u, u = s ++ t := ⟨_, rfl⟩
  rw [← hu] at hlen hown
  have HU := hid hu
  clear hu
  obtain ⟨a3, c3, hv, hrg⟩ := own_rg hown
  subst hv
  have K := hid (of_says a3 c3 u w2 hrg (by omega))
  clear hown hnew tc hrg hlen
  go_wp2_with fail
  refine K.out.mono ?_
  rintro e w3 ⟨v, n, rfl, hcn, hin, ow⟩
  have OW := hid ow
  have HCN := hid hcn
  have HIN := hid hin
  obtain ⟨a4, c4, hv⟩ := own_shape ow.own
  subst hv
  clear ow hcn hin K
  go_wp2
  go_ret
  refine ⟨_, n, rfl, HCN.out, fun x => ?_, ⟨OW.out.own, fun g e => Nat.le_trans T2.out.size (OW.out.new g e), T2.out.trans OW.out.touch (fun _ _ e => e)⟩⟩
  rw [HIN.out x, HU.out, in_append]
  refine ⟨fun h => h.2, fun h => ⟨?_, h⟩⟩
  rcases h with ⟨r, hr, q1, q2⟩ | ⟨r, hr, q1, q2⟩
  · have := HS.out.in_ r hr
    unfold inB at this
    omega
  · have := HT.out.in_ r hr
    unfold inB at this
    omega
end Go.Proofs.YtnngemdpoemhgaaDoor

/- Same: are two lists of ranges one; no condition. -/
namespace Go.Proofs.YtnngemdpoemhgaaDoor
open Go.RowKit

set_option maxRecDepth 100000 in
set_option maxHeartbeats 4000000 in
theorem equal_same (a a' : Option Addr) (c c' : Nat) (l : List R2) (w : World) (h : Rg w a l) (h' : Rg w a' l) (hb : l.length ≤ 140737488351232) :
    Calls Tryd.prog 42 #[.slice a l.length c, .slice a' l.length c'] w fun e w' => e = .returned (.bool true) ∧ Touch (fun _ => False) w w' := by
  have HL := hid h
  have HL' := hid h'
  clear h h'
  go_enter Tryd.func42, Tryd.ntmps42
  go_wp2_with fail
  go_loopg [13] l.length (fun gk i wr => ∃ k : Nat, k + gk = l.length ∧ i = .int .i64 (k : Nat) ∧ Touch (fun _ => False) w wr)
  case atStart => exact ⟨0, by omega, rfl, Touch.refl _ _⟩
  case round =>
    obtain ⟨k, hk, rfl, htc⟩ := hrel
    have TC := hid htc
    have R1 := hid (HL.out.new htc)
    have R2 := hid (HL'.out.new htc)
    clear htc
    by_cases hlt : k < l.length
    · obtain ⟨b, o, ha, hbl, hcell⟩ : ∃ b o, a = some ⟨b, o, none⟩ ∧ b < wr.heap.size ∧ ∀ i (h : i < l.length), wr.cell? ⟨b, o + i * 2, none⟩ = some (.int .i64 (l[i]).1) ∧ wr.cell? ⟨b, o + i * 2 + 1, none⟩ = some (.int .i64 (l[i]).2) := by
        rcases R1.out with h | h
        · rw [h] at hlt; simp at hlt
        · exact h
      obtain ⟨b', o', ha', hbl', hcell'⟩ : ∃ b o, a' = some ⟨b, o, none⟩ ∧ b < wr.heap.size ∧ ∀ i (h : i < l.length), wr.cell? ⟨b, o + i * 2, none⟩ = some (.int .i64 (l[i]).1) ∧ wr.cell? ⟨b, o + i * 2 + 1, none⟩ = some (.int .i64 (l[i]).2) := by
        rcases R2.out with h | h
        · rw [h] at hlt; simp at hlt
        · exact h
      subst ha
      subst ha'
      obtain ⟨d0, d1⟩ := hcell k hlt
      obtain ⟨e0, e1⟩ := hcell' k hlt
      obtain ⟨r, hr⟩ : ∃ r, r = l[k] := ⟨_, rfl⟩
      rw [← hr] at d0 d1 e0 e1
      obtain ⟨x, y⟩ := r
      dsimp only at d0 d1 e0 e1
      have hkI : (k : Int) < (l.length : Int) := by omega
      clear hcell hcell' hr R1 R2
      go_wp2_with fail
      go_quiet (fail)
      go_wp2
      go_roundg (gk - 1)
      case measure => omega
      case rel => exact ⟨k + 1, by omega, by go_num, TC.out.drewN _⟩
    · obtain rfl : k = l.length := by omega
      go_wp2
      go_ret
      exact ⟨rfl, TC.out⟩

set_option maxRecDepth 100000 in
theorem same_yes (a a' : Option Addr) (c c' : Nat) (l : List R2) (w : World) (h : Rg w a l) (h' : Rg w a' l) (hb : l.length ≤ 140737488351232) :
    Calls Tryd.prog 21 #[.slice a l.length c, .slice a' l.length c'] w fun e w' => e = .returned (.bool true) ∧ Touch (fun _ => False) w w' := by
  have K := hid (equal_same a a' c c' l w h h' hb)
  clear h h'
  go_enter Tryd.func21, Tryd.ntmps21
  go_wp2_with fail
  refine K.out.mono ?_
  rintro e w1 ⟨rfl, tc⟩
  have TC := hid tc
  clear tc K
  go_wp2
  go_ret
  exact ⟨rfl, TC.out⟩
end Go.Proofs.YtnngemdpoemhgaaDoor
