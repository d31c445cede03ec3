/- Texts of this proof, one behind the other: what each says stands ahead of it. -/
import Derived.Test.YtmokfheckngfiaaDoorM8
import Derived.Test.YtmokfheckngfiaaDoorM6
import Derived.Deep.RegionLaw
/- Plain facts: what isn't in a set, and what is in both; no condition beside those told. -/
namespace Go.Proofs.YtmokfheckngfiaaDoor.S

def nstep (p : List R2 × Int) (r : R2) : List R2 × Int := (if p.2 < r.1 then p.1 ++ [(p.2, r.1 - 1)] else p.1, r.2 + 1)
def notAcc (s : List R2) : List R2 × Int := s.foldl nstep ([], 0)
def notL (s : List R2) : List R2 := if (notAcc s).2 ≤ 1114111 then (notAcc s).1 ++ [((notAcc s).2, 1114111)] else (notAcc s).1

theorem canon_snoc {o : List R2} {r : R2} (h : Canon o) (hr : inB r) (hq : ∀ q ∈ o, q.2 + 1 < r.1) : Canon (o ++ [r]) := by
  refine ⟨fun q hq' => ?_, ?_⟩
  · rcases List.mem_append.1 hq' with k | k
    · exact h.in_ q k
    · simp only [List.mem_singleton] at k
      rw [k]
      exact hr
  · rw [List.pairwise_append]
    refine ⟨h.up, List.pairwise_singleton _ _, fun a ha b hb => ?_⟩
    simp only [List.mem_singleton] at hb
    rw [hb]
    exact hq a ha

theorem not_good : ∀ (m o : List R2) (n : Int), Canon o → (∀ q ∈ o, q.2 + 1 < n) → 0 ≤ n → n ≤ 1114112 → (∀ r ∈ m, inB r) → m.Pairwise (fun a b => a.2 + 1 < b.1) → (∀ r ∈ m, n ≤ r.1) →
    Canon (m.foldl nstep (o, n)).1 ∧ (∀ q ∈ (m.foldl nstep (o, n)).1, q.2 + 1 < (m.foldl nstep (o, n)).2) ∧ n ≤ (m.foldl nstep (o, n)).2 ∧ (m.foldl nstep (o, n)).2 ≤ 1114112 ∧ (∀ r ∈ m, r.2 < (m.foldl nstep (o, n)).2) ∧
      ∀ x, In x (m.foldl nstep (o, n)).1 ↔ In x o ∨ (n ≤ x ∧ x < (m.foldl nstep (o, n)).2 ∧ ¬ In x m)
  | [], o, n, hc, hq, h0, h1, _, _, _ => ⟨hc, hq, Int.le_refl _, h1, by simp, fun x => by
      simp only [List.foldl_nil]
      constructor
      · exact .inl
      · rintro (h | h)
        · exact h
        · omega⟩
  | (a, b) :: m, o, n, hc, hq, h0, h1, hin, hup, hle => by
    have hp := List.pairwise_cons.1 hup
    have hr := hin (a, b) (by simp)
    have hn := hle (a, b) (by simp)
    unfold inB at hr
    dsimp only at hr hn hp
    have key : Canon (nstep (o, n) (a, b)).1 ∧ (∀ q ∈ (nstep (o, n) (a, b)).1, q.2 + 1 < b + 1) ∧ ∀ x, In x (nstep (o, n) (a, b)).1 ↔ In x o ∨ (n ≤ x ∧ x < a) := by
      unfold nstep
      dsimp only
      by_cases c : n < a
      · rw [if_pos c]
        refine ⟨canon_snoc hc (by unfold inB; dsimp only; omega) hq, fun q hq' => ?_, fun x => ?_⟩
        · rcases List.mem_append.1 hq' with k | k
          · have := hq q k
            omega
          · simp only [List.mem_singleton] at k
            rw [k]
            dsimp only
            omega
        · rw [in_append, in_one]
          dsimp only
          constructor
          · rintro (h | h)
            · exact .inl h
            · exact .inr (by omega)
          · rintro (h | h)
            · exact .inl h
            · exact .inr (by omega)
      · rw [if_neg c]
        refine ⟨hc, fun q hq' => by have := hq q hq'; omega, fun x => ?_⟩
        constructor
        · exact .inl
        · rintro (h | h)
          · exact h
          · omega
    obtain ⟨k1, k2, k3⟩ := key
    have ih := not_good m (nstep (o, n) (a, b)).1 (b + 1) k1 k2 (by omega) (by omega) (fun r hr' => hin r (by simp [hr'])) hp.2 (fun r hr' => by have := hp.1 r hr'; omega)
    have e : ((a, b) :: m).foldl nstep (o, n) = m.foldl nstep ((nstep (o, n) (a, b)).1, b + 1) := rfl
    rw [e]
    obtain ⟨i1, i2, i3, i4, i5, i6⟩ := ih
    refine ⟨i1, i2, by omega, i4, fun r hr' => ?_, fun x => ?_⟩
    · rcases List.mem_cons.1 hr' with k | k
      · rw [k]
        dsimp only
        omega
      · exact i5 r k
    · rw [i6 x, k3 x, in_cons]
      dsimp only
      have above : In x m → b + 1 < x := fun ⟨r, hr', h1', _⟩ => by have := hp.1 r hr'; omega
      constructor
      · rintro ((h | h) | h)
        · exact .inl h
        · refine .inr ⟨h.1, by omega, ?_⟩
          rintro (k | k)
          · omega
          · have := above k; omega
        · refine .inr ⟨by omega, h.2.1, ?_⟩
          rintro (k | k)
          · omega
          · exact h.2.2 k
      · rintro (h | h)
        · exact .inl (.inl h)
        · rcases Int.lt_or_le x a with k | k
          · exact .inl (.inr ⟨h.1, k⟩)
          · rcases Int.lt_or_le b x with q | q
            · exact .inr ⟨by omega, h.2.1, fun hm => h.2.2 (.inr hm)⟩
            · exact absurd (.inl ⟨k, q⟩) h.2.2

theorem notL_good {s : List R2} (hs : Canon s) : Canon (notL s) ∧ ∀ x, In x (notL s) ↔ (0 ≤ x ∧ x ≤ 1114111) ∧ ¬ In x s := by
  obtain ⟨h1, h2, h3, h4, h5, h6⟩ := not_good s [] 0 ⟨by simp, .nil⟩ (by simp) (by omega) (by omega) hs.in_ hs.up (fun r hr => (hs.in_ r hr).1)
  have up : ∀ x, In x s → x < (notAcc s).2 ∧ 0 ≤ x := fun x ⟨r, hr, k1, k2⟩ => by
    have := h5 r hr
    have := (hs.in_ r hr).1
    unfold notAcc
    omega
  have h6' : ∀ x, In x (notAcc s).1 ↔ (0 ≤ x ∧ x < (notAcc s).2 ∧ ¬ In x s) := fun x => by
    have := h6 x
    simp only [in_nil, false_or] at this
    exact this
  have h4' : (notAcc s).2 ≤ 1114112 := h4
  have h3' : 0 ≤ (notAcc s).2 := h3
  unfold notL
  by_cases c : (notAcc s).2 ≤ 1114111
  · rw [if_pos c]
    refine ⟨canon_snoc h1 (by unfold inB; dsimp only; omega) h2, fun x => ?_⟩
    rw [in_append, in_one, h6' x]
    dsimp only
    constructor
    · rintro (h | h)
      · exact ⟨by omega, h.2.2⟩
      · exact ⟨by omega, fun k => by have := up x k; omega⟩
    · rintro ⟨h, k⟩
      rcases Int.lt_or_le x (notAcc s).2 with q | q
      · exact .inl ⟨h.1, q, k⟩
      · exact .inr (by omega)
  · rw [if_neg c]
    refine ⟨h1, fun x => ?_⟩
    rw [h6' x]
    constructor
    · intro h
      exact ⟨by omega, h.2.2⟩
    · intro h
      exact ⟨by omega, by omega, h.2⟩

/-- What is in both. -/
def andL : List R2 → List R2 → List R2
  | [], _ => []
  | _ :: _, [] => []
  | a :: s, b :: t => (if max a.1 b.1 ≤ min a.2 b.2 then [(max a.1 b.1, min a.2 b.2)] else []) ++ (if a.2 < b.2 then andL s (b :: t) else andL (a :: s) t)
termination_by s t => s.length + t.length

theorem Canon.tail {a : R2} {s : List R2} (h : Canon (a :: s)) : Canon s := ⟨fun r hr => h.in_ r (by simp [hr]), (List.pairwise_cons.1 h.up).2⟩
theorem Canon.above {a : R2} {s : List R2} (h : Canon (a :: s)) {x : Int} (hx : In x s) : a.2 + 1 < x := by
  obtain ⟨r, hr, h1, _⟩ := hx
  have := (List.pairwise_cons.1 h.up).1 r hr
  omega

theorem andL_good : ∀ (s t : List R2), Canon s → Canon t → Canon (andL s t) ∧ ∀ x, In x (andL s t) ↔ In x s ∧ In x t
  | [], t, _, _ => by
    rw [andL]
    exact ⟨⟨by simp, .nil⟩, fun x => ⟨fun h => absurd h (in_nil x), fun h => absurd h.1 (in_nil x)⟩⟩
  | _ :: _, [], _, _ => by
    rw [andL]
    exact ⟨⟨by simp, .nil⟩, fun x => ⟨fun h => absurd h (in_nil x), fun h => absurd h.2 (in_nil x)⟩⟩
  | (a, b) :: s, (c, d) :: t, hs, ht => by
    have hi := hs.in_ (a, b) (by simp)
    have hj := ht.in_ (c, d) (by simp)
    unfold inB at hi hj
    dsimp only at hi hj
    have aS : ∀ x, In x s → b + 1 < x := fun x h => hs.above h
    have aT : ∀ x, In x t → d + 1 < x := fun x h => ht.above h
    rw [andL]
    dsimp only
    obtain ⟨R, hR, g1, g2⟩ : ∃ R, R = (if b < d then andL s ((c, d) :: t) else andL ((a, b) :: s) t) ∧ Canon R ∧ ∀ x, In x R ↔ (In x ((a, b) :: s) ∧ In x ((c, d) :: t)) ∧ min b d < x := by
      by_cases k : b < d
      · obtain ⟨h1, h2⟩ := andL_good s ((c, d) :: t) hs.tail ht
        refine ⟨_, rfl, by rw [if_pos k]; exact h1, fun x => ?_⟩
        rw [if_pos k, h2 x, in_cons, in_cons]
        dsimp only
        constructor
        · rintro ⟨p, q⟩
          have := aS x p
          exact ⟨⟨.inr p, q⟩, by omega⟩
        · rintro ⟨⟨p, q⟩, r⟩
          rcases p with p | p
          · omega
          · exact ⟨p, q⟩
      · obtain ⟨h1, h2⟩ := andL_good ((a, b) :: s) t hs ht.tail
        refine ⟨_, rfl, by rw [if_neg k]; exact h1, fun x => ?_⟩
        rw [if_neg k, h2 x, in_cons, in_cons]
        dsimp only
        constructor
        · rintro ⟨p, q⟩
          have := aT x q
          exact ⟨⟨p, .inr q⟩, by omega⟩
        · rintro ⟨⟨p, q⟩, r⟩
          rcases q with q | q
          · omega
          · exact ⟨p, q⟩
    rw [← hR]
    have low : ∀ x, In x R → min b d + 1 < x := fun x h => by
      obtain ⟨⟨p, q⟩, r⟩ := (g2 x).1 h
      rcases in_cons.1 p with p | p <;> rcases in_cons.1 q with q | q
      · dsimp only at p q; omega
      · have := aT x q; dsimp only at p; omega
      · have := aS x p; dsimp only at q; omega
      · have := aS x p; have := aT x q; omega
    have iff : ∀ x, (In x ((a, b) :: s) ∧ In x ((c, d) :: t)) ↔ (max a c ≤ x ∧ x ≤ min b d) ∨ In x R := fun x => by
      rw [g2 x]
      constructor
      · rintro ⟨p, q⟩
        rcases Int.lt_or_le (min b d) x with k | k
        · exact .inr ⟨⟨p, q⟩, k⟩
        · left
          rcases in_cons.1 p with p' | p'
          · rcases in_cons.1 q with q' | q'
            · dsimp only at p' q'; omega
            · have := aT x q'; dsimp only at p'; omega
          · have := aS x p'
            rcases in_cons.1 q with q' | q'
            · dsimp only at q'; omega
            · have := aT x q'; omega
      · rintro (h | h)
        · exact ⟨in_cons.2 (.inl (by dsimp only; omega)), in_cons.2 (.inl (by dsimp only; omega))⟩
        · exact h.1
    by_cases e : max a c ≤ min b d
    · rw [if_pos e]
      refine ⟨⟨fun r hr => ?_, ?_⟩, fun x => ?_⟩
      · rcases List.mem_append.1 hr with k | k
        · simp only [List.mem_singleton] at k
          rw [k]
          unfold inB
          dsimp only
          omega
        · exact g1.in_ r k
      · rw [List.singleton_append, List.pairwise_cons]
        refine ⟨fun r hr => ?_, g1.up⟩
        have hri := g1.in_ r hr
        unfold inB at hri
        exact low r.1 ⟨r, hr, Int.le_refl _, hri.2.1⟩
      · rw [in_append, in_one, iff x]
    · rw [if_neg e, List.nil_append]
      refine ⟨g1, fun x => ?_⟩
      rw [iff x]
      constructor
      · exact .inr
      · rintro (h | h)
        · omega
        · exact h
termination_by s t => s.length + t.length
end Go.Proofs.YtmokfheckngfiaaDoor.S

/- speaks of the laws on sets, and an append as a step; no condition. -/
namespace Go.Proofs.YtmokfheckngfiaaDoor.S
open Go.RowKit

theorem step_append_own {P : Program} (w : World) {ops : Array Oper} {o : Oper} {a : Act} {K : Act → World → Prop} {Q : Exit → Act → World → Prop} {E : Prop} (hgd : o.guard = none) (s x : Operand) (t : TypeId)
    (ho : o.op = .call { callee := .builtin .append, args := #[s, x], argTypes := #[t, t] })
    (base : Nat) (e : TypeId) (i : TypeInfo) (z : Value) (size bytes : Nat) (ht : P.underlying t = some (.slice e)) (hi : P.info? e = some i) (hz : i.zero = some z)
    (hsize : i.size = size) (hby : i.bytes = bytes) (hzs : z.cells.size = size) (hsz : 0 < size)
    (v : Value) (n : Nat) (xs : List Value) (hs : a.eval s = v) (hown : w.ownsRow base e size v n xs)
    (ad : Addr) (m c : Nat) (news : List Value) (hx : a.eval x = .slice (some ad) m c) (hl : news.length = m * size) (hnews : ∀ j u, news[j]? = some u → w.cell? (ad.add j) = some u) (h1 : ∀ u ∈ news, u.oneCell' = true)
    (h63 : n + m ≤ maxLen) (hbytes : (n + m) * bytes ≤ 140737488355328) (hbase : base ≤ w.heap.size) (H : Nat) (hH : w.heap.size = H)
    (h : ∀ v' w', w'.ownsRow base e size v' (n + m) (xs ++ news) → w.grownBy w' v.ownBlock → (v'.ownBlock = v.ownBlock ∨ v'.ownBlock = some H) → K (a.put o.dst v') w') :
    if Region.wanted o (yielded ops a.tmps) = true then Oper.wp P o a w K Q else E := by
  have hw : Region.wanted o (yielded ops a.tmps) = true := by simp [Region.wanted, hgd]
  rw [if_pos hw]
  obtain ⟨v', w', hr, h2, h3, h4, h5⟩ := run_append_own_at (P := P) w base t o.type e i z size bytes ht hi hz hsize hby hzs hsz v n xs hown ad m c news hl hnews h1 h63 hbytes hbase
  unfold Oper.wp execOp
  simp only [ho, resolve, invoke, builtin, Sem.run_bind, Sem.run_pure, Result.andThen_ok, List.map_toArray, List.map_cons, List.map_nil, hs, hx, hr]
  exact h v' w' h2 h3 (by rw [← hH]; exact h5)

theorem nine : ∀ x, In x [((1 : Int), (9 : Int))] ↔ (0 ≤ x ∧ x ≤ 1114111) ∧ In x [((5 : Int), (9 : Int)), (1, 2), (3, 4)] := by
  intro x
  simp only [in_cons, in_nil, or_false]
  omega
theorem nine_canon : Canon [((1 : Int), (9 : Int))] := ⟨by simp [inB], List.pairwise_singleton _ _⟩

end Go.Proofs.YtmokfheckngfiaaDoor.S

/- Not of a set: what it answers; no condition beside those told. -/
namespace Go.Proofs.YtmokfheckngfiaaDoor.S
open Go.RowKit

theorem notAcc_step (s : List R2) (k : Nat) (h : k < s.length) : notAcc (s.take (k + 1)) = nstep (notAcc (s.take k)) s[k] := by
  unfold notAcc
  rw [List.take_succ_eq_append_getElem h, List.foldl_append]
  rfl
theorem notAcc_len (s : List R2) : ∀ k, k ≤ s.length → (notAcc (s.take k)).1.length ≤ k
  | 0, _ => by simp [notAcc]
  | k + 1, h => by
    have := notAcc_len s k (by omega)
    rw [notAcc_step s k (by omega)]
    unfold nstep
    dsimp only
    split
    · rw [List.length_append]
      simp
      omega
    · omega
theorem notAcc_next {s : List R2} (hs : ∀ r ∈ s, inB r) : ∀ k, k ≤ s.length → 0 ≤ (notAcc (s.take k)).2 ∧ (notAcc (s.take k)).2 ≤ 1114112
  | 0, _ => by simp [notAcc]
  | k + 1, h => by
    rw [notAcc_step s k (by omega)]
    have := hs s[k] (List.getElem_mem _)
    unfold inB at this
    unfold nstep
    dsimp only
    omega

set_option maxRecDepth 100000 in
set_option maxHeartbeats 4000000 in
theorem not_any (a : Option Addr) (cap : Nat) (s : List R2) (w : World) (hl : Rg w a s) (hs : ∀ r ∈ s, inB r) (hb : s.length ≤ 1048576) :
    Calls Tryd.prog 44 #[.slice a s.length cap] w fun e w' => ∃ v, e = .returned v ∧ OwE w w' 38 v (notL s) := by
  obtain ⟨i0, hi33, hz0, hz1, hz2⟩ := info_parts info33
  have HL := hid hl
  have HIN := hid hs
  clear hl hs
  go_enter Tryd.func44, Tryd.ntmps44
  go_wp2_with fail
  go_loopg [3, 4, 9] s.length (fun gk v n i wr => ∃ k : Nat, k + gk = s.length ∧ i = .int .i64 (k : Nat) ∧ n = .int .i64 (notAcc (s.take k)).2 ∧ OwE w wr 38 v (notAcc (s.take k)).1)
  case atStart => exact ⟨0, by omega, rfl, rfl, OwE.nil _ _⟩
  case round =>
    obtain ⟨k, hk, rfl, rfl, how⟩ := hrel
    have OW := hid how
    have HLR := hid (HL.out.new how.touch)
    have hlen := notAcc_len s k (by omega)
    have hnx := notAcc_next HIN.out k (by omega)
    obtain ⟨av, cv, hav⟩ := own_shape how.own
    subst hav
    clear how
    by_cases hlt : k < s.length
    · obtain ⟨b, o, ha, hbl, hcell⟩ : ∃ b o, a = some ⟨b, o, none⟩ ∧ b < wr.heap.size ∧ ∀ i (h : i < s.length), wr.cell? ⟨b, o + i * 2, none⟩ = some (.int .i64 (s[i]).1) ∧ wr.cell? ⟨b, o + i * 2 + 1, none⟩ = some (.int .i64 (s[i]).2) := by
        rcases HLR.out with h | h
        · rw [h] at hlt; simp at hlt
        · exact h
      subst ha
      obtain ⟨d0, d1⟩ := hcell k hlt
      have hri := HIN.out s[k] (List.getElem_mem hlt)
      have NS := hid (notAcc_step s k hlt)
      obtain ⟨r, hr⟩ : ∃ r, r = s[k] := ⟨_, rfl⟩
      rw [← hr] at d0 d1 hri NS
      obtain ⟨x, y⟩ := r
      unfold inB at hri
      dsimp only at d0 d1 hri
      clear hcell hr
      obtain ⟨q, hq⟩ : ∃ q, q = notAcc (s.take k) := ⟨_, rfl⟩
      rw [← hq] at OW NS hlen hnx ⊢
      obtain ⟨ot, n⟩ := q
      dsimp only at OW NS hlen hnx ⊢
      clear hq
      obtain ⟨M, hM⟩ : ∃ M, M = ot.length := ⟨_, rfl⟩
      rw [← hM] at OW ⊢
      have HM := hid hM
      clear hM
      go_upto_region 6 with fail
      obtain ⟨rb, hrb⟩ : ∃ rb, rb = wr.heap.size := ⟨_, rfl⟩
      have OA := hid (OW.out.still ((Touch.refl _ wr).alloc (.cells #[.int .i64 x, .int .i64 y] 38)))
      have RB := hid (show (wr.alloc (.cells #[.int .i64 x, .int .i64 y] 38)).heap[rb]? = some (.cells #[.int .i64 x, .int .i64 y] 38 (0, 0)) from by rw [hrb]; exact three_new _ _ _)
      have HOWN := hid (show ∀ g, (Value.slice av M cv).ownBlock = some g → g ≠ rb from fun g e => by
        have := (OW.out.own.lt g e).2
        omega)
      rw [← hrb]
      clear hrb OW
      generalize wr.alloc (.cells #[.int .i64 x, .int .i64 y] 38) = wA at *
      have p0 := cell_two0 RB.out
      have p1 := cell_two1 RB.out
      clear d0 d1
      by_cases hc : n < x
      · go_wp2_with (at_builtin; refine wpList_append_own_at _ rfl _ _ 35 rfl 0 38 i0 (.agg #[.int .i64 0, .int .i64 0]) 2 16 Tryd.underlying35 hi33 hz0 hz1 hz2 rfl (by decide) _ _ _ rfl (OA.out.own.alloc _) ⟨wA.heap.size, 0, none⟩ 1 1 [.int .i64 n, .int .i64 (x - 1)] rfl rfl (row_new wA [.int .i64 n, .int .i64 (x - 1)] 38) (by intro u hu; simp at hu; rcases hu with rfl | rfl <;> rfl) (by unfold maxLen; omega) (by omega) (Nat.zero_le _) ?_)
        intro v' w4 hown hgrow _ hat
        have OC := hid (OA.out.more (xs := [(n, x - 1)]) hown hgrow hat)
        have hrbl := lt_of_block RB.out
        have RC := hid (show w4.heap[rb]? = some (.cells #[.int .i64 x, .int .i64 y] 38 (0, 0)) from by
          rw [hgrow.block rb (by simp; omega) (fun e => ?_), Below.heap_alloc _ _ _ hrbl]
          · exact RB.out
          · exact HOWN.out _ e.symm rfl)
        have q1 := cell_two1 RC.out
        clear hown hgrow hat p0 p1
        go_wp2
        go_roundg (gk - 1)
        case measure => omega
        case rel =>
          refine ⟨k + 1, by omega, by go_num, ?_, ?_⟩
          · rw [NS.out]
            rfl
          · rw [NS.out]
            unfold nstep
            dsimp only
            rw [if_pos (by omega)]
            exact OC.out
      · go_wp2
        go_roundg (gk - 1)
        case measure => omega
        case rel =>
          refine ⟨k + 1, by omega, by go_num, ?_, ?_⟩
          · rw [NS.out]
            rfl
          · rw [NS.out]
            unfold nstep
            dsimp only
            rw [if_neg (by omega)]
            exact OA.out
    · obtain rfl : k = s.length := by omega
      rw [List.take_length] at OW hlen hnx ⊢
      have NL := hid (show notL s = if (notAcc s).2 ≤ 1114111 then (notAcc s).1 ++ [((notAcc s).2, 1114111)] else (notAcc s).1 from rfl)
      obtain ⟨q, hq⟩ : ∃ q, q = notAcc s := ⟨_, rfl⟩
      rw [← hq] at OW NL hlen hnx ⊢
      obtain ⟨ot, n⟩ := q
      dsimp only at OW NL hlen hnx ⊢
      clear hq
      obtain ⟨M, hM⟩ : ∃ M, M = ot.length := ⟨_, rfl⟩
      rw [← hM] at OW ⊢
      have HM := hid hM
      clear hM
      by_cases hc : n ≤ 1114111
      · go_wp2_with (at_builtin; refine wpList_append_own_at _ rfl _ _ 35 rfl 0 38 i0 (.agg #[.int .i64 0, .int .i64 0]) 2 16 Tryd.underlying35 hi33 hz0 hz1 hz2 rfl (by decide) _ _ _ rfl (OW.out.own.alloc _) ⟨wr.heap.size, 0, none⟩ 1 1 [.int .i64 n, .int .i64 1114111] rfl rfl (row_new wr [.int .i64 n, .int .i64 1114111] 38) (by intro u hu; simp at hu; rcases hu with rfl | rfl <;> rfl) (by unfold maxLen; omega) (by omega) (Nat.zero_le _) ?_)
        intro v' w4 hown hgrow _ hat
        have OC := hid (OW.out.more (xs := [(n, 1114111)]) hown hgrow hat)
        have HC := hid hc
        clear hown hgrow hat hc
        obtain ⟨a5, c5, hv5⟩ := own_shape OC.out.own
        subst hv5
        go_wp2
        go_ret
        refine ⟨_, rfl, ?_⟩
        rw [NL.out, if_pos HC.out]
        exact OC.out
      · have HC := hid hc
        clear hc
        have hc2 : (1114111 : Int) < n := by have := HC.out; omega
        go_wp2
        go_ret
        refine ⟨_, rfl, ?_⟩
        rw [NL.out, if_neg (by have := HC.out; omega)]
        exact OW.out

theorem not_says (a : Option Addr) (cap : Nat) (s : List R2) (w : World) (hl : Rg w a s) (hs : Canon s) :
    Calls Tryd.prog 44 #[.slice a s.length cap] w fun e w' => ∃ v n, e = .returned v ∧ Canon n ∧ (∀ x, In x n ↔ (0 ≤ x ∧ x ≤ 1114111) ∧ ¬ In x s) ∧ OwE w w' 38 v n := by
  refine (not_any a cap s w hl hs.in_ (by have := canon_len hs; omega)).mono ?_
  rintro e w' ⟨v, rfl, ow⟩
  have h := notL_good hs
  exact ⟨v, notL s, rfl, h.1, h.2, ow⟩
end Go.Proofs.YtmokfheckngfiaaDoor.S
