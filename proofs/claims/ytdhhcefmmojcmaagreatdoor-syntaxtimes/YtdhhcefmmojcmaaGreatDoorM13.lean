/- Texts of this proof, one behind the other: what each says stands ahead of it. -/
import Derived.Test.YtdhhcefmmojcmaaGreatDoorM3
import Derived.Test.YtdhhcefmmojcmaaGreatDoorM12
/- Has of a set: what it answers; no condition beside those told. -/
namespace Go.Proofs.YtdhhcefmmojcmaaGreatDoor
open Go.RowKit

theorem box_new (w : World) (v : Value) (t : TypeId) : (w.alloc (.cells #[v] t)).cell? ⟨w.heap.size, 0, none⟩ = some v := by
  rw [World.cell?_alloc_at _ _ _ _ (by simp)]; rfl

set_option maxRecDepth 100000 in
set_option maxHeartbeats 4000000 in
theorem has_says (a : Option Addr) (cap : Nat) (s : List R2) (r : Int) (w : World) (hl : Rg w a s) (hs : Canon s) :
    Calls Tryz.prog 17 #[.slice a s.length cap, .int .i64 r] w fun e w' => e = .returned (.bool (hasB r s)) ∧ Touch (fun _ => False) w w' := by
  have HL := hid hl
  have HS := hid hs
  have hb := canon_len hs
  have K := hid (fun (wq : World) h1 h2 h3 h4 h5 => search_any (w.heap.size + 1) w.heap.size r a cap s wq h1 h2 h3 h4 h5 (canon_mono hs) (by omega))
  have T2 := hid (((Touch.refl (fun _ => False) w).alloc (.cells #[.slice a s.length cap] 25)).alloc (.cells #[.int .i64 r] 3))
  clear hl hs
  go_enter Tryz.func17, Tryz.ntmps17
  go_wp2_with fail
  have q1 : ((w.alloc (.cells #[.slice a s.length cap] 25)).alloc (.cells #[.int .i64 r] 3)).cell? ⟨w.heap.size, 0, none⟩ = some (.slice a s.length cap) := (((Touch.refl (fun _ => False) _).alloc _).cell (p := ⟨w.heap.size, 0, none⟩) (by simp) id).trans (box_new _ _ _)
  have q2 : ((w.alloc (.cells #[.slice a s.length cap] 25)).alloc (.cells #[.int .i64 r] 3)).cell? ⟨w.heap.size + 1, 0, none⟩ = some (.int .i64 r) := by
    have := box_new (w.alloc (.cells #[.slice a s.length cap] 25)) (.int .i64 r) 3
    rw [show (w.alloc (.cells #[.slice a s.length cap] 25)).heap.size = w.heap.size + 1 by simp] at this
    exact this
  have z2 : w.heap.size + 1 < ((w.alloc (.cells #[.slice a s.length cap] 25)).alloc (.cells #[.int .i64 r] 3)).heap.size := by simp
  generalize ((w.alloc (.cells #[.slice a s.length cap] 25)).alloc (.cells #[.int .i64 r] 3)) = w2 at *
  have z1 : w.heap.size < w2.heap.size := Nat.lt_of_succ_lt z2
  refine (K.out w2 z2 z1 q2 q1 (HL.out.new T2.out)).mono ?_
  rintro e w3 ⟨k, rfl, hk, h1, h2, tc⟩
  have T3 := hid (T2.out.trans tc (fun _ _ e => e))
  have p1 := (tc.cell (p := ⟨w.heap.size, 0, none⟩) z1 id).trans q1
  have p2 := (tc.cell (p := ⟨w.heap.size + 1, 0, none⟩) z2 id).trans q2
  have R3 := hid (HL.out.new T3.out)
  clear tc q1 q2 z1 z2 K
  by_cases hlt : k < s.length
  · have HX := hid (has_at HS.out r k hlt (fun t p q => by have := h1 t p q; omega) (h2 k (Nat.le_refl _) hlt))
    obtain ⟨b, o, ha, hbl, hcell⟩ : ∃ b o, a = some ⟨b, o, none⟩ ∧ b < w3.heap.size ∧ ∀ i (h : i < s.length), w3.cell? ⟨b, o + i * 2, none⟩ = some (.int .i64 (s[i]).1) ∧ w3.cell? ⟨b, o + i * 2 + 1, none⟩ = some (.int .i64 (s[i]).2) := by
      rcases R3.out with h | h
      · rw [h] at hlt; simp at hlt
      · exact h
    subst ha
    obtain ⟨d0, d1⟩ := hcell k hlt
    obtain ⟨x, hx⟩ : ∃ x, x = s[k].1 := ⟨_, rfl⟩
    rw [← hx] at d0 HX
    have hkI : (k : Int) < (s.length : Int) := by omega
    have hd : decide ((k : Int) < (s.length : Int)) = true := decide_eq_true hkI
    clear hcell hx h1 h2 d1
    go_wp2_with fail
    go_quiet (fail)
    go_wp2
    go_ret
    rw [HX.out]
    exact ⟨rfl, T3.out.drewN _⟩
  · have HX := hid (has_none (s := s) r (fun t ht => by have := h1 t (by omega) ht; omega))
    have hd : decide ((k : Int) < (s.length : Int)) = false := decide_eq_false (by omega)
    clear h1 h2
    go_wp2_with fail
    go_quiet (fail)
    go_wp2
    go_ret
    rw [HX.out]
    exact ⟨rfl, T3.out.drewN _⟩
end Go.Proofs.YtdhhcefmmojcmaaGreatDoor

/- A parser of patterns: its small sets; no condition. -/
namespace Go.Proofs.YtdhhcefmmojcmaaGreatDoor
open Go.RowKit
open Go.Lib

theorem OwE.base {w w1 w2 : World} {e : TypeId} {v : Value} {s : List R2} (h : OwE w1 w2 e v s) (t : Touch (fun _ => False) w w1) : OwE w w2 e v s :=
  ⟨h.own, fun g e => Nat.le_trans t.size (h.new g e), t.trans h.touch (fun _ _ e => e)⟩
theorem OwE.slice {w w1 : World} {e : TypeId} {v : Value} {s : List R2} (h : OwE w w1 e v s) : ∃ a c, v = .slice a s.length c ∧ Rg w1 a s := own_rg h.own
theorem cn_app {a b n : List R2} (hn : Canon n) (h : ∀ x, In x n ↔ In x (cnR a) ∨ In x (cnR b)) : n = cnR (a ++ b) := by
  refine cn_of hn (fun x => ?_)
  rw [h, (cn_good a).2, (cn_good b).2, in_append]
  constructor
  · rintro (h | h)
    · exact ⟨h.1, .inl h.2⟩
    · exact ⟨h.1, .inr h.2⟩
  · rintro ⟨h, h2 | h2⟩
    · exact .inl ⟨h, h2⟩
    · exact .inr ⟨h, h2⟩
/-- Of of ranges in memory. -/
theorem of_cn (a : Option Addr) (cap : Nat) (l : List R2) (w : World) (hl : Rg w a l) (hb : l.length * 16 ≤ 140737488351232) :
    Calls Tryz.prog 22 #[.slice a l.length cap] w fun e w' => ∃ v, e = .returned v ∧ OwE w w' 60 v (cnR l) :=
  (of_says a cap l w hl hb).mono (fun e w' ⟨v, s, h1, h2, h3, h4⟩ => ⟨v, h1, by rw [← cn_of h2 h3]; exact ⟨h4.own, h4.new, h4.touch⟩⟩)
theorem or_cn (a1 a2 : Option Addr) (c1 c2 : Nat) (s t : List R2) (w : World) (h1 : Rg w a1 (cnR s)) (h2 : Rg w a2 (cnR t)) :
    Calls Tryz.prog 21 #[.slice a1 (cnR s).length c1, .slice a2 (cnR t).length c2] w fun e w' => ∃ v, e = .returned v ∧ OwE w w' 60 v (cnR (s ++ t)) :=
  (or_says a1 a2 c1 c2 _ _ w h1 h2 (cn_good s).1 (cn_good t).1).mono (fun e w' ⟨v, n, g1, g2, g3, g4⟩ => ⟨v, g1, by rw [← cn_app g2 g3]; exact g4⟩)
set_option maxRecDepth 100000 in
set_option maxHeartbeats 4000000 in
theorem between_any (x y : Int) (w : World) : Calls Tryz.prog 113 #[.int .i64 x, .int .i64 y] w fun e w' => ∃ v, e = .returned v ∧ OwE w w' 60 v (cnR [(x, y)]) := by
  have K := hid (of_cn (some ⟨w.heap.size, 0, none⟩) 1 [(x, y)] (w.alloc (.cells #[.int .i64 x, .int .i64 y] 60)) (rg_alloc w [(x, y)] 60) (by simp))
  have T := hid ((Touch.refl (fun _ => False) w).alloc (.cells #[.int .i64 x, .int .i64 y] 60))
  go_enter Tryz.func113, Tryz.ntmps113
  go_wp2_with fail
  refine K.out.mono ?_
  rintro e w1 ⟨v, rfl, ow⟩
  have OW := hid (ow.base T.out)
  obtain ⟨a, c, hv, _⟩ := ow.slice
  subst hv
  clear ow K T
  go_wp2
  go_ret
  exact ⟨_, rfl, OW.out⟩
set_option maxRecDepth 100000 in
set_option maxHeartbeats 4000000 in
theorem only_any (x : Int) (w : World) : Calls Tryz.prog 116 #[.int .i64 x] w fun e w' => ∃ v, e = .returned v ∧ OwE w w' 60 v (cnR [(x, x)]) := by
  have K := hid (between_any x x w)
  go_enter Tryz.func116, Tryz.ntmps116
  go_wp2_with fail
  refine K.out.mono ?_
  rintro e w1 ⟨v, rfl, ow⟩
  have OW := hid ow
  obtain ⟨a, c, hv, _⟩ := ow.slice
  subst hv
  clear ow K
  go_wp2
  go_ret
  exact ⟨_, rfl, OW.out⟩
set_option maxRecDepth 100000 in
set_option maxHeartbeats 4000000 in
theorem digits_any (w : World) : Calls Tryz.prog 149 #[] w fun e w' => ∃ v, e = .returned v ∧ OwE w w' 60 v (cnR [(48, 57)]) := by
  have K := hid (between_any 48 57 w)
  go_enter Tryz.func149, Tryz.ntmps149
  go_wp2_with fail
  refine K.out.mono ?_
  rintro e w1 ⟨v, rfl, ow⟩
  have OW := hid ow
  obtain ⟨a, c, hv, _⟩ := ow.slice
  subst hv
  clear ow K
  go_wp2
  go_ret
  exact ⟨_, rfl, OW.out⟩
set_option maxRecDepth 100000 in
set_option maxHeartbeats 4000000 in
theorem letdig_any (w : World) : Calls Tryz.prog 144 #[] w fun e w' => ∃ v, e = .returned v ∧ OwE w w' 60 v (cnR ([(48, 57)] ++ [(65, 90)] ++ [(97, 122)])) := by
  have K1 := hid (digits_any w)
  go_enter Tryz.func144, Tryz.ntmps144
  go_wp2_with fail
  refine K1.out.mono ?_
  rintro e w1 ⟨v, rfl, o1⟩
  obtain ⟨a1, c1, hv, r1⟩ := o1.slice
  subst hv
  have O1 := hid o1
  have R1 := hid r1
  have K2 := hid (between_any 65 90 w1)
  clear o1 r1 K1
  go_wp2_with fail
  refine K2.out.mono ?_
  rintro e w2 ⟨v, rfl, o2⟩
  obtain ⟨a2, c2, hv, r2⟩ := o2.slice
  subst hv
  have K3 := hid (or_cn a1 a2 c1 c2 [(48, 57)] [(65, 90)] w2 (R1.out.new o2.touch) r2)
  have T2 := hid (O1.out.touch.trans o2.touch (fun _ _ e => e))
  clear o2 r2 K2
  go_wp2_with fail
  refine K3.out.mono ?_
  rintro e w3 ⟨v, rfl, o3⟩
  obtain ⟨a3, c3, hv, r3⟩ := o3.slice
  subst hv
  have R3 := hid r3
  have T3 := hid (T2.out.trans o3.touch (fun _ _ e => e))
  have K4 := hid (between_any 97 122 w3)
  clear o3 r3 K3
  go_wp2_with fail
  refine K4.out.mono ?_
  rintro e w4 ⟨v, rfl, o4⟩
  obtain ⟨a4, c4, hv, r4⟩ := o4.slice
  subst hv
  have K5 := hid (or_cn a3 a4 c3 c4 ([(48, 57)] ++ [(65, 90)]) [(97, 122)] w4 (R3.out.new o4.touch) r4)
  have T4 := hid (T3.out.trans o4.touch (fun _ _ e => e))
  clear o4 r4 K4
  go_wp2_with fail
  refine K5.out.mono ?_
  rintro e w5 ⟨v, rfl, o5⟩
  have OW := hid (o5.base T4.out)
  obtain ⟨a5, c5, hv, _⟩ := o5.slice
  subst hv
  clear o5 K5
  go_wp2
  go_ret
  exact ⟨_, rfl, OW.out⟩
set_option maxRecDepth 100000 in
set_option maxHeartbeats 4000000 in
theorem hexdig_any (w : World) : Calls Tryz.prog 153 #[] w fun e w' => ∃ v, e = .returned v ∧ OwE w w' 60 v (cnR ([(48, 57)] ++ [(65, 70)] ++ [(97, 102)])) := by
  have K1 := hid (digits_any w)
  go_enter Tryz.func153, Tryz.ntmps153
  go_wp2_with fail
  refine K1.out.mono ?_
  rintro e w1 ⟨v, rfl, o1⟩
  obtain ⟨a1, c1, hv, r1⟩ := o1.slice
  subst hv
  have O1 := hid o1
  have R1 := hid r1
  have K2 := hid (between_any 65 70 w1)
  clear o1 r1 K1
  go_wp2_with fail
  refine K2.out.mono ?_
  rintro e w2 ⟨v, rfl, o2⟩
  obtain ⟨a2, c2, hv, r2⟩ := o2.slice
  subst hv
  have K3 := hid (or_cn a1 a2 c1 c2 [(48, 57)] [(65, 70)] w2 (R1.out.new o2.touch) r2)
  have T2 := hid (O1.out.touch.trans o2.touch (fun _ _ e => e))
  clear o2 r2 K2
  go_wp2_with fail
  refine K3.out.mono ?_
  rintro e w3 ⟨v, rfl, o3⟩
  obtain ⟨a3, c3, hv, r3⟩ := o3.slice
  subst hv
  have R3 := hid r3
  have T3 := hid (T2.out.trans o3.touch (fun _ _ e => e))
  have K4 := hid (between_any 97 102 w3)
  clear o3 r3 K3
  go_wp2_with fail
  refine K4.out.mono ?_
  rintro e w4 ⟨v, rfl, o4⟩
  obtain ⟨a4, c4, hv, r4⟩ := o4.slice
  subst hv
  have K5 := hid (or_cn a3 a4 c3 c4 ([(48, 57)] ++ [(65, 70)]) [(97, 102)] w4 (R3.out.new o4.touch) r4)
  have T4 := hid (T3.out.trans o4.touch (fun _ _ e => e))
  clear o4 r4 K4
  go_wp2_with fail
  refine K5.out.mono ?_
  rintro e w5 ⟨v, rfl, o5⟩
  have OW := hid (o5.base T4.out)
  obtain ⟨a5, c5, hv, _⟩ := o5.slice
  subst hv
  clear o5 K5
  go_wp2
  go_ret
  exact ⟨_, rfl, OW.out⟩
def lAln : List R2 := [(48, 57)] ++ [(65, 90)] ++ [(97, 122)]
def lHex : List R2 := [(48, 57)] ++ [(65, 70)] ++ [(97, 102)]
def lNam : List R2 := lAln ++ [(95, 95)]
set_option maxRecDepth 100000 in
set_option maxHeartbeats 4000000 in
theorem names_any (w : World) : Calls Tryz.prog 138 #[] w fun e w' => ∃ v, e = .returned v ∧ OwE w w' 60 v (cnR lNam) := by
  have K1 := hid (letdig_any w)
  go_enter Tryz.func138, Tryz.ntmps138
  go_wp2_with fail
  refine K1.out.mono ?_
  rintro e w1 ⟨v, rfl, o1⟩
  obtain ⟨a1, c1, hv, r1⟩ := o1.slice
  subst hv
  have O1 := hid o1
  have R1 := hid r1
  have K2 := hid (only_any 95 w1)
  clear o1 r1 K1
  go_wp2_with fail
  refine K2.out.mono ?_
  rintro e w2 ⟨v, rfl, o2⟩
  obtain ⟨a2, c2, hv, r2⟩ := o2.slice
  subst hv
  have K3 := hid (or_cn a1 a2 c1 c2 lAln [(95, 95)] w2 (R1.out.new o2.touch) r2)
  have T2 := hid (O1.out.touch.trans o2.touch (fun _ _ e => e))
  clear o2 r2 K2
  unfold lAln at K3
  go_wp2_with fail
  refine K3.out.mono ?_
  rintro e w3 ⟨v, rfl, o3⟩
  have OW := hid (o3.base T2.out)
  obtain ⟨a3, c3, hv, _⟩ := o3.slice
  subst hv
  clear o3 K3
  go_wp2
  go_ret
  exact ⟨_, rfl, OW.out⟩
theorem pick_set (t : Bool) (v u : Value) (w : World) : Calls Tryz.prog 114 #[.bool t, v, u] w fun e w' => e = .returned (if t = true then v else u) ∧ w' = w := by
  cases t
  · go_enter Tryz.func114, Tryz.ntmps114
    go_wp2
    go_ret
    exact ⟨rfl, rfl⟩
  · go_enter Tryz.func114, Tryz.ntmps114
    go_wp2
    go_ret
    exact ⟨rfl, rfl⟩
theorem pick_int (t : Bool) (x y : Int) (w : World) : Calls Tryz.prog 117 #[.bool t, .int .i64 x, .int .i64 y] w fun e w' => e = .returned (.int .i64 (if t = true then x else y)) ∧ w' = w := by
  cases t
  · go_enter Tryz.func117, Tryz.ntmps117
    go_wp2
    go_ret
    exact ⟨rfl, rfl⟩
  · go_enter Tryz.func117, Tryz.ntmps117
    go_wp2
    go_ret
    exact ⟨rfl, rfl⟩
/-- What the small sets hold. -/
theorem has_list {l : List R2} {x : Int} : hasB x (cnR l) = (decide (0 ≤ x ∧ x ≤ 1114111) && hasB x l) := by
  rw [Bool.eq_iff_iff, hasB_iff, Bool.and_eq_true, hasB_iff, (cn_good l).2, decide_eq_true_eq]
theorem has_dig (x : Int) : hasB x (cnR [(48, 57)]) = isDig x := by
  rw [has_list, Bool.eq_iff_iff]
  simp only [hasB, isDig, List.any_cons, List.any_nil, Bool.and_eq_true, decide_eq_true_eq, Bool.or_false]
  omega
theorem has_aln (x : Int) : hasB x (cnR lAln) = isAln x := by
  rw [has_list, Bool.eq_iff_iff]
  simp only [lAln, hasB, isAln, isDig, isLet, List.cons_append, List.nil_append, List.any_cons, List.any_nil, Bool.and_eq_true, Bool.or_eq_true, decide_eq_true_eq, Bool.or_false]
  omega
theorem has_hex (x : Int) : hasB x (cnR lHex) = isHex x := by
  rw [has_list, Bool.eq_iff_iff]
  simp only [lHex, hasB, isHex, isDig, List.cons_append, List.nil_append, List.any_cons, List.any_nil, Bool.and_eq_true, Bool.or_eq_true, decide_eq_true_eq, Bool.or_false]
  omega
theorem has_nam (x : Int) : hasB x (cnR lNam) = isNam x := by
  rw [has_list, Bool.eq_iff_iff]
  simp only [lNam, lAln, hasB, isNam, isAln, isDig, isLet, List.cons_append, List.nil_append, List.any_cons, List.any_nil, Bool.and_eq_true, Bool.or_eq_true, decide_eq_true_eq, Bool.or_false]
  omega
end Go.Proofs.YtdhhcefmmojcmaaGreatDoor

/- A parser of patterns: run; conditions: as told. -/
namespace Go.Proofs.YtdhhcefmmojcmaaGreatDoor
open Go.RowKit
open Go.Lib

/-- The bytes between two scalars' places. -/
def Px.cut (X : Px) (i j : Nat) : ByteArray := X.s.extract (lkR X.P i).toNat (lkR X.P j).toNat
theorem Px.Good.at_nat {X : Px} (h : X.Good) {i : Nat} (hi : i ≤ X.R.length) : ∃ n : Nat, lkR X.P i = (n : Int) ∧ n ≤ X.s.size := by
  have hl : i < X.P.length := by have := h.lenP; omega
  have := h.up i hl
  rw [lk_at hl]
  exact ⟨X.P[i].toNat, by omega, by omega⟩
theorem Px.Good.le {X : Px} (h : X.Good) : ∀ (n i : Nat), i + n ≤ X.R.length → lkR X.P i ≤ lkR X.P (i + n)
  | 0, i, _ => Int.le_refl _
  | n + 1, i, hi => by
    have h1 : i + n < X.P.length := by have := h.lenP; omega
    have h2 : i + n + 1 < X.P.length := by have := h.lenP; omega
    have := h.mono (i + n) h1 h2
    have ih := Px.Good.le h n i (by omega)
    rw [lk_at h1] at ih
    rw [show i + (n + 1) = i + n + 1 by omega, lk_at h2]
    omega
theorem run_step {R : List Int} {p : Int → Bool} {n k : Nat} : (runF R p (n + 1) k).length = if p (lkR R k) = true then (runF R p n (k + 1)).length + 1 else 0 := by
  rw [runF]
  split <;> simp
set_option maxRecDepth 100000 in
set_option maxHeartbeats 8000000 in
theorem run_any (b : Nat) (X : Px) (k : Nat) (f : Fl) (vn : Value) (ns : List ByteArray) (op : Nat) (a : Option Addr) (c m : Nat) (s : List R2) (p : Int → Bool) (w : World) (h : PS w b X k f vn ns op) (hX : X.Good) (hk : k ≤ X.R.length) (hm : m ≤ 1024)
    (ho : w.ownsRow 0 60 2 (.slice a s.length c) s.length (flatR s)) (hs : Canon s) (hp : ∀ x, hasB x s = p x) (hend : p (-1) = false) :
    Calls Tryz.prog 137 #[.pointer (some ⟨b, 0, none⟩), .func (.func 17) #[.slice a s.length c] #[], .int .i64 (m : Nat)] w fun e w' =>
      e = .returned (.string (X.cut k (k + (runF X.R p m k).length))) ∧ PS w' b X (k + (runF X.R p m k).length) f vn ns op ∧ Touch (fun g => g = b) w w' := by
  have HR := hid (run_le (R := X.R) hend m k hk)
  obtain ⟨L, hL⟩ : ∃ L, L = (runF X.R p m k).length := ⟨_, rfl⟩
  have HL := hid hL.symm
  rw [← hL] at HR ⊢
  have HP := hid h
  have HO := hid ho
  have HX := hid hX
  have HEND := hid hend
  have HS := hid hs
  have c5 := h.c5
  have TW := hid (Touch.refl (fun g => g = b) w)
  obtain ⟨S, hS⟩ : ∃ S, S = X.cut k (k + L) := ⟨_, rfl⟩
  have HCUT := hid hS
  rw [← hS]
  have hRl := hX.lenR
  clear hS
  clear h ho hL hX hend hs
  obtain ⟨n, hn⟩ : ∃ n, n = s.length := ⟨_, rfl⟩
  have HN := hid hn
  rw [← hn] at HO ⊢
  have hkk : k ≤ 1024 := by omega
  clear hn hk hRl
  go_enter Tryz.func137, Tryz.ntmps137
  go_wp2_with fail
  clear c5
  go_loopg [] m (fun gk wq => ∃ i : Nat, i + gk = m ∧ Hid (i ≤ L) ∧ Hid (PS wq b X (k + i) f vn ns op) ∧ Hid (i + (runF X.R p (m - i) (k + i)).length = L) ∧ Hid (wq.ownsRow 0 60 2 (.slice a n c) n (flatR s)) ∧ Hid (Touch (fun g => g = b) w wq))
  case atStart => exact ⟨0, by omega, hid (Nat.zero_le _), HP, hid (by rw [Nat.zero_add]; exact HL.out), HO, TW⟩
  case round =>
    obtain ⟨i, hi, HIL, HK, HD, HOW, TK⟩ := hrel
    clear HP HL HO TW
    have HKL := hid (show k + i ≤ 2048 from by have := HR.out; have := HIL.out; have := HX.out.lenR; omega)
    have c5 := HK.out.c5
    have KL := hid (look_at b X (k + i) f vn ns op wr HK.out HKL.out)
    by_cases h0 : gk = 0
    · subst h0
      have im : i = m := by omega
      subst im
      rw [Nat.sub_self, show runF X.R p 0 (k + i) = [] from rfl] at HD
      have HK1 := HK
      have TK1 := TK
      have hge : ¬ (i : Int) < (i : Int) := by omega
      have HE := hid (show i = L from by have := HD.out; simpa using this)
      obtain ⟨pa, ea, la⟩ := HX.out.at_nat (i := k) (by have := HR.out; omega)
      obtain ⟨pb, eb, lb⟩ := HX.out.at_nat (i := k + i) (by have := HR.out; have := HE.out; omega)
      have hab : pa ≤ pb := by
        have := HX.out.le i k (by have := HR.out; have := HE.out; omega)
        rw [ea, eb] at this
        omega
      have HFIN := hid (show S = X.s.extract pa pb from by rw [HCUT.out, ← HE.out]; unfold Px.cut; rw [ea, eb]; rfl)
      have hs1 : X.s.size ≤ 1024 := HX.out.size
      have c4 := HK1.out.c4
      have c2 := HK1.out.c2
      have e5 := HK1.out.c5
      have hpl : X.P.length = X.R.length + 1 := HX.out.lenP
      have hpk : k + i < X.P.length := by have := HR.out; have := HE.out; omega
      have HPL := hid HK1.out.places
      obtain ⟨g, o, hap, hcp⟩ : ∃ g o, X.ap = some ⟨g, o, none⟩ ∧ ∀ j (h : j < X.P.length), wr.cell? ⟨g, o + j, none⟩ = some (.int .i64 X.P[j]) := by
        rcases HPL.out with h0 | h0
        · rw [h0] at hpk; simp at hpk
        · exact h0
      have d0 := hcp k (by omega)
      have d1 := hcp (k + i) hpk
      rw [← lk_at (by omega), ea] at d0
      rw [← lk_at hpk, eb] at d1
      rw [hap] at c2
      obtain ⟨pl, hpl2⟩ : ∃ pl, pl = X.P.length := ⟨_, rfl⟩
      rw [← hpl2] at c2 hpk
      have i0 : (k : Int) < (pl : Int) := by omega
      have i1 : (k : Int) + (i : Int) < (pl : Int) := by omega
      obtain ⟨str, hstr⟩ : ∃ str, str = X.s := ⟨_, rfl⟩
      rw [← hstr] at c4 HFIN lb hs1
      have j0 : (pa : Int) ≤ (pb : Int) := by omega
      have j1 : (pb : Int) ≤ (str.size : Int) := by omega
      have HPS := hid (HK1.out)
      clear hpl hpl2 hcp hap ea eb hstr HPL HD HR HX HS HCUT HEND HIL HOW HN hp
      go_wp2_with fail
      go_quiet (fail)
      go_wp2
      go_ret
      have := HE.out
      subst this
      rw [HFIN.out]
      exact ⟨rfl, HPS.out.new ((Touch.refl _ _).drewN _), TK1.out.drewN _⟩
    · obtain ⟨g1, hg1⟩ : ∃ g1, m - i = g1 + 1 := ⟨m - i - 1, by omega⟩
      rw [hg1, run_step] at HD
      have hlt : (i : Int) < (m : Int) := by omega
      have HG1 := hid hg1
      clear hg1
      have KH := hid (fun (w' : World) (t : Touch (fun _ => False) wr w') (x : Int) => (has_says a c s x w' (by have := rowKept HOW.out t (fun _ _ e => e); rw [HN.out] at this; obtain ⟨a1, c1, he, hr⟩ := own_rg this; cases he; exact hr) HS.out).mono (fun e w'' h => (show e = .returned (.bool (p x)) ∧ Touch (fun _ => False) w' w'' from ⟨by rw [← hp x]; exact h.1, h.2⟩)))
      rw [← HN.out] at KH
      generalize hx : lkR X.R (k + i) = x at *
      have HXE := hid hx
      clear hx
      by_cases hpx : p x = true
      · rw [if_pos hpx] at HD
        go_wp2_with fail
        refine KL.out.mono ?_
        rintro e w1 ⟨rfl, t1⟩
        have K2 := hid (KH.out w1 t1 x)
        rw [hpx] at K2
        have T1 := hid t1
        clear t1 KH KL
        go_wp2_with fail
        refine K2.out.mono ?_
        rintro e w2 ⟨rfl, t2⟩
        have T2 := hid (T1.out.trans t2 (fun _ _ e => e))
        have HK2 := hid (HK.out.new T2.out)
        have d5 := HK2.out.c5
        have f5 := HK2.out.fr 5
        have HAP := hid (show ∀ g, (Value.slice a n c).ownBlock = some g → ¬ g = b from fun g e e2 => by
          subst e2
          obtain ⟨cs, fr, hh⟩ := own_type HOW.out g e
          rw [HK.out.cells] at hh
          cases hh)
        have HOW3 := hid (rowKept (rowKept HOW.out T2.out (fun _ _ e => e)) (touch_one w2 b 5 (.int .i64 ((k + (i + 1) : Nat) : Int))) HAP.out)
        have HK3 := hid (HK2.out.setk (k + (i + 1)))
        have TK3 := hid ((TK.out.trans T2.out (fun _ _ e => e.elim)).trans (touch_one w2 b 5 (.int .i64 ((k + (i + 1) : Nat) : Int))) (fun _ _ e => e))
        have e1 : ((k + (i + 1) : Nat) : Int) = (k : Int) + (i : Int) + 1 := by omega
        rw [e1] at HOW3 HK3 TK3
        have HD2 := hid (show (i + 1) + (runF X.R p (m - (i + 1)) (k + (i + 1))).length = L from by
          have h1 := HG1.out
          rw [show m - (i + 1) = g1 by omega, show k + (i + 1) = k + i + 1 by omega]
          have := HD.out
          omega)
        have HIL2 := hid (show i + 1 ≤ L from by have := HD2.out; omega)
        clear t2 K2 HK HOW TK HAP HD HIL HG1 HKL e1 c5 T1 T2 hpx
        go_wp2
        go_roundg (gk - 1)
        case measure => omega
        case rel => exact ⟨i + 1, by omega, HIL2, HK3, HD2, HOW3, TK3⟩
      · rw [if_neg hpx] at HD
        have hpf : p x = false := by simpa using hpx
        go_wp2_with fail
        refine KL.out.mono ?_
        rintro e w1 ⟨rfl, t1⟩
        have K2 := hid (KH.out w1 t1 x)
        rw [hpf] at K2
        have T1 := hid t1
        clear t1 KH KL
        go_wp2_with fail
        refine K2.out.mono ?_
        rintro e w2 ⟨rfl, t2⟩
        have T2 := hid (T1.out.trans t2 (fun _ _ e => e))
        have HK1 := hid (HK.out.new T2.out)
        have TK1 := hid (TK.out.trans T2.out (fun _ _ e => e.elim))
        clear t2 K2 HK TK HG1 HKL c5 T1 T2 hpx hpf HXE hlt
        have HE := hid (show i = L from by have := HD.out; simpa using this)
        obtain ⟨pa, ea, la⟩ := HX.out.at_nat (i := k) (by have := HR.out; omega)
        obtain ⟨pb, eb, lb⟩ := HX.out.at_nat (i := k + i) (by have := HR.out; have := HE.out; omega)
        have hab : pa ≤ pb := by
          have := HX.out.le i k (by have := HR.out; have := HE.out; omega)
          rw [ea, eb] at this
          omega
        have HFIN := hid (show S = X.s.extract pa pb from by rw [HCUT.out, ← HE.out]; unfold Px.cut; rw [ea, eb]; rfl)
        have hs1 : X.s.size ≤ 1024 := HX.out.size
        have c4 := HK1.out.c4
        have c2 := HK1.out.c2
        have e5 := HK1.out.c5
        have hpl : X.P.length = X.R.length + 1 := HX.out.lenP
        have hpk : k + i < X.P.length := by have := HR.out; have := HE.out; omega
        have HPL := hid HK1.out.places
        obtain ⟨g, o, hap, hcp⟩ : ∃ g o, X.ap = some ⟨g, o, none⟩ ∧ ∀ j (h : j < X.P.length), w2.cell? ⟨g, o + j, none⟩ = some (.int .i64 X.P[j]) := by
          rcases HPL.out with h0 | h0
          · rw [h0] at hpk; simp at hpk
          · exact h0
        have d0 := hcp k (by omega)
        have d1 := hcp (k + i) hpk
        rw [← lk_at (by omega), ea] at d0
        rw [← lk_at hpk, eb] at d1
        rw [hap] at c2
        obtain ⟨pl, hpl2⟩ : ∃ pl, pl = X.P.length := ⟨_, rfl⟩
        rw [← hpl2] at c2 hpk
        have i0 : (k : Int) < (pl : Int) := by omega
        have i1 : (k : Int) + (i : Int) < (pl : Int) := by omega
        obtain ⟨str, hstr⟩ : ∃ str, str = X.s := ⟨_, rfl⟩
        rw [← hstr] at c4 HFIN lb hs1
        have j0 : (pa : Int) ≤ (pb : Int) := by omega
        have j1 : (pb : Int) ≤ (str.size : Int) := by omega
        have HPS := hid (HK1.out)
        clear hpl hpl2 hcp hap ea eb hstr HPL HD HR HX HS HCUT HEND HIL HOW HN hp
        go_wp2_with fail
        go_quiet (fail)
        go_wp2
        go_ret
        have := HE.out
        subst this
        rw [HFIN.out]
        exact ⟨rfl, HPS.out.new ((Touch.refl _ _).drewN _), TK1.out.drewN _⟩
end Go.Proofs.YtdhhcefmmojcmaaGreatDoor
