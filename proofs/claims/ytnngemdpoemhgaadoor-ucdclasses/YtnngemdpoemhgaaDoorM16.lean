/- Texts of this proof, one behind the other: what each says stands ahead of it. -/
import Derived.Test.YtnngemdpoemhgaaDoorM8
import Derived.Test.YtnngemdpoemhgaaDoorM6
import Derived.Test.YtnngemdpoemhgaaDoorM15
import Derived.Test.YtnngemdpoemhgaaDoorM13
import Derived.Shelf.SlSorted.Search
/- Where a number would be in a list of ranges that rises, plain facts; no condition beside those told. -/
namespace Go.Proofs.YtnngemdpoemhgaaDoor

theorem canon_lt {s : List R2} (h : Canon s) (i j : Nat) (hi : i < s.length) (hj : j < s.length) (hij : i < j) : s[i].2 + 1 < s[j].1 := (List.pairwise_iff_getElem.1 h.up) i j hi hj hij
theorem canon_mono {s : List R2} (h : Canon s) (i j : Nat) (hi : i < s.length) (hj : j < s.length) (hij : i ≤ j) : s[i].2 ≤ s[j].2 := by
  rcases Nat.lt_or_ge i j with k | k
  · have h1 := canon_lt h i j hi hj k
    have h2 := h.in_ s[j] (List.getElem_mem _)
    unfold inB at h2
    omega
  · obtain rfl : i = j := by omega
    exact Int.le_refl _
theorem has_none {s : List R2} (x : Int) (h1 : ∀ t (hl : t < s.length), ¬ x ≤ s[t].2) : hasB x s = false := by
  rw [← Bool.not_eq_true, hasB_iff]
  rintro ⟨r, hr, _, k⟩
  obtain ⟨t, ht, rfl⟩ := List.getElem_of_mem hr
  exact h1 t ht k
theorem has_at {s : List R2} (h : Canon s) (x : Int) (k : Nat) (hk : k < s.length) (h1 : ∀ t (_ : t < k) (hl : t < s.length), ¬ x ≤ s[t].2) (h2 : x ≤ s[k].2) : hasB x s = decide (s[k].1 ≤ x) := by
  refine hasB_eq ?_
  rw [decide_eq_true_eq]
  constructor
  · rintro ⟨r, hr, k1, k2⟩
    obtain ⟨t, ht, rfl⟩ := List.getElem_of_mem hr
    rcases Nat.lt_trichotomy t k with q | q | q
    · exact absurd k2 (h1 t q ht)
    · subst q
      exact k1
    · have := canon_lt h k t hk ht q
      omega
  · exact fun q => ⟨s[k], List.getElem_mem _, q, h2⟩
end Go.Proofs.YtnngemdpoemhgaaDoor

/- Has of a set: what it answers; no condition beside those told. -/
namespace Go.Proofs.YtnngemdpoemhgaaDoor
open Go.RowKit

theorem box_new (w : World) (v : Value) (t : TypeId) : (w.alloc (.cells #[v] t)).cell? ⟨w.heap.size, 0, none⟩ = some v := by
  rw [World.cell?_alloc_at _ _ _ _ (by simp)]; rfl

set_option maxRecDepth 100000 in
set_option maxHeartbeats 4000000 in
theorem has_says (a : Option Addr) (cap : Nat) (s : List R2) (r : Int) (w : World) (hl : Rg w a s) (hs : Canon s) :
    Calls Tryd.prog 15 #[.slice a s.length cap, .int .i64 r] w fun e w' => e = .returned (.bool (hasB r s)) ∧ Touch (fun _ => False) w w' := by
  have HL := hid hl
  have HS := hid hs
  have hb := canon_len hs
  have K := hid (fun (wq : World) h1 h2 h3 h4 h5 => search_any (w.heap.size + 1) w.heap.size r a cap s wq h1 h2 h3 h4 h5 (canon_mono hs) (by omega))
  have T2 := hid (((Touch.refl (fun _ => False) w).alloc (.cells #[.slice a s.length cap] 27)).alloc (.cells #[.int .i64 r] 3))
  clear hl hs
  go_enter Tryd.func15, Tryd.ntmps15
  go_wp2_with fail
  have q1 : ((w.alloc (.cells #[.slice a s.length cap] 27)).alloc (.cells #[.int .i64 r] 3)).cell? ⟨w.heap.size, 0, none⟩ = some (.slice a s.length cap) := (((Touch.refl (fun _ => False) _).alloc _).cell (p := ⟨w.heap.size, 0, none⟩) (by simp) id).trans (box_new _ _ _)
  have q2 : ((w.alloc (.cells #[.slice a s.length cap] 27)).alloc (.cells #[.int .i64 r] 3)).cell? ⟨w.heap.size + 1, 0, none⟩ = some (.int .i64 r) := by
    have := box_new (w.alloc (.cells #[.slice a s.length cap] 27)) (.int .i64 r) 3
    rw [show (w.alloc (.cells #[.slice a s.length cap] 27)).heap.size = w.heap.size + 1 by simp] at this
    exact this
  have z2 : w.heap.size + 1 < ((w.alloc (.cells #[.slice a s.length cap] 27)).alloc (.cells #[.int .i64 r] 3)).heap.size := by simp
  generalize ((w.alloc (.cells #[.slice a s.length cap] 27)).alloc (.cells #[.int .i64 r] 3)) = w2 at *
  have z1 : w.heap.size < w2.heap.size := Nat.lt_of_succ_lt z2
  refine (K.out w2 z2 z1 q2 q1 (HL.out.new T2.out)).mono ?_
  rintro e w3 ⟨k, rfl, hk, h1, h2, tc⟩
  have T3 := hid (T2.out.trans tc (fun _ _ e => e))
  have p1 := (tc.cell (p := ⟨w.heap.size, 0, none⟩) z1 id).trans q1
  have p2 := (tc.cell (p := ⟨w.heap.size + 1, 0, none⟩) z2 id).trans q2
  have R3 := hid (HL.out.new T3.out)
  clear tc q1 q2 z1 z2 K
  by_cases hlt : k < s.length
  · have HX := hid (has_at HS.out r k hlt (fun t p q => by have := h1 t p q; omega) (h2 k (Nat.le_refl _) hlt))
    obtain ⟨b, o, ha, hbl, hcell⟩ : ∃ b o, a = some ⟨b, o, none⟩ ∧ b < w3.heap.size ∧ ∀ i (h : i < s.length), w3.cell? ⟨b, o + i * 2, none⟩ = some (.int .i64 (s[i]).1) ∧ w3.cell? ⟨b, o + i * 2 + 1, none⟩ = some (.int .i64 (s[i]).2) := by
      rcases R3.out with h | h
      · rw [h] at hlt; simp at hlt
      · exact h
    subst ha
    obtain ⟨d0, d1⟩ := hcell k hlt
    obtain ⟨x, hx⟩ : ∃ x, x = s[k].1 := ⟨_, rfl⟩
    rw [← hx] at d0 HX
    have hkI : (k : Int) < (s.length : Int) := by omega
    have hd : decide ((k : Int) < (s.length : Int)) = true := decide_eq_true hkI
    clear hcell hx h1 h2 d1
    go_wp2_with fail
    go_quiet (fail)
    go_wp2
    go_ret
    rw [HX.out]
    exact ⟨rfl, T3.out.drewN _⟩
  · have HX := hid (has_none (s := s) r (fun t ht => by have := h1 t (by omega) ht; omega))
    have hd : decide ((k : Int) < (s.length : Int)) = false := decide_eq_false (by omega)
    clear h1 h2
    go_wp2_with fail
    go_quiet (fail)
    go_wp2
    go_ret
    rw [HX.out]
    exact ⟨rfl, T3.out.drewN _⟩
end Go.Proofs.YtnngemdpoemhgaaDoor

/- What UcdClasses is made of, plain facts; no condition. -/
namespace Go.Proofs.YtnngemdpoemhgaaDoor
open Go.RowKit

/-- Names in a list. -/
def Ns (w : World) (b : Nat) (l : List ByteArray) : Prop := b < w.heap.size ∧ ∀ i n, l[i]? = some n → w.cell? ⟨b, i, none⟩ = some (.string n)
theorem Ns.new {w w' : World} {b : Nat} {l : List ByteArray} (h : Ns w b l) (t : Touch (fun _ => False) w w') : Ns w' b l :=
  ⟨Nat.lt_of_lt_of_le h.1 t.size, fun i n hn => (t.cell (p := ⟨b, i, none⟩) h.1 id).trans (h.2 i n hn)⟩
theorem ns_alloc (w : World) (l : List ByteArray) (t : TypeId) : Ns (w.alloc (.cells (l.map Value.string).toArray t)) w.heap.size l := by
  refine ⟨by simp, fun i n hn => ?_⟩
  have := row_new w (l.map Value.string) t i (.string n) (by simp [hn])
  rwa [add_g] at this

def names18 : List ByteArray := tableN.map (·.1)
set_option maxRecDepth 100000 in
theorem refNames_any (w : World) : Calls Tryd.prog 22 #[] w fun e w' => ∃ b c, e = .returned (.slice (some ⟨b, 0, none⟩) 15 c) ∧ Ns w' b refN ∧ Touch (fun _ => False) w w' := by
  go_enter Tryd.func22, Tryd.ntmps22
  go_wp2
  go_ret
  exact ⟨_, _, rfl, ns_alloc w refN 9, (Touch.refl _ w).alloc _⟩
set_option maxRecDepth 100000 in
theorem names_any (w : World) : Calls Tryd.prog 24 #[] w fun e w' => ∃ b c, e = .returned (.slice (some ⟨b, 0, none⟩) 18 c) ∧ Ns w' b names18 ∧ Touch (fun _ => False) w w' := by
  go_enter Tryd.func24, Tryd.ntmps24
  go_wp2
  go_ret
  exact ⟨_, _, rfl, ns_alloc w names18 9, (Touch.refl _ w).alloc _⟩

theorem lOf_unknown {s : ByteArray} (h : kn s 15 = false) : lOf s = [] := by
  rcases name_cases s with ⟨p, hp, rfl⟩ | k
  · have h1 := List.all_eq_true.1 kn_table p hp
    rw [h] at h1
    cases h1
  · exact lOf_none k
set_option maxRecDepth 1000000 in
theorem names_rise : (List.range 17).all (fun k => Op.bytesLess ((names18.getD k ⟨#[]⟩).toList) ((names18.getD (k + 1) ⟨#[]⟩).toList)) = true := by decide +kernel
theorem rise_at (k : Nat) (h : k < 17) (p q : ByteArray) (hp : names18[k]? = some p) (hq : names18[k + 1]? = some q) : Op.bytesLess p.toList q.toList = true := by
  have := List.all_eq_true.1 names_rise k (by simpa using h)
  rw [List.getD_eq_getElem?_getD, List.getD_eq_getElem?_getD, hp, hq] at this
  exact this
theorem names_known (k : Nat) (p : ByteArray) (hp : names18[k]? = some p) : kn p 15 = true := by
  unfold names18 at hp
  rw [List.getElem?_map] at hp
  obtain ⟨a, ha, rfl⟩ := Option.map_eq_some_iff.1 hp
  exact List.all_eq_true.1 kn_table a (List.mem_of_getElem? ha)
theorem has_law {n l : List R2} {r : Int} {neg : Bool} (h : ∀ x, In x n ↔ (0 ≤ x ∧ x ≤ 1114111) ∧ (if neg then ¬ In x l else In x l)) : hasB r n = (decide (0 ≤ r ∧ r ≤ 1114111) && (if neg then !hasB r l else hasB r l)) := by
  refine hasB_eq ?_
  rw [h, Bool.and_eq_true, decide_eq_true_eq]
  cases neg
  · simp [hasB_iff]
  · simp [← hasB_iff]

end Go.Proofs.YtnngemdpoemhgaaDoor

/- UcdClasses, the walk at one letter; condition: the two tables lie there. -/
namespace Go.Proofs.YtnngemdpoemhgaaDoor
open Go.RowKit

set_option maxRecDepth 100000 in
set_option maxHeartbeats 16000000 in
theorem classes_perl_d (s : ByteArray) (r : Int) (w : World) (ht : Tabs w) : Calls Tryd.prog 7 #[.string s, .int .i64 r, .int .u8 100] w fun e w' => e = .returned (.bool true) ∧ Touch (fun _ => False) w w' := by
  have HT := hid ht
  clear ht
  go_enter Tryd.func7, Tryd.ntmps7
  go_wp2_with fail
  refine (speaks_yes w HT.out).mono ?_
  rintro e w1 ⟨rfl, tc⟩
  have T := hid tc
  clear tc HT
  go_wp2_with fail
  refine (class_all s w1).mono ?_
  rintro e w2 ⟨v, n, rfl, hcn, hin, ow⟩
  replace T := hid (T.out.trans ow.touch (fun _ _ e => e))
  obtain ⟨na, nc, hv, hrn⟩ := ow.rg
  subst hv
  have CN := hid hcn
  have RN := hid hrn
  have HN := hid hin
  clear ow hcn hin hrn
  go_upto_region 4 with fail
  go_cut [9] (fun v wd => v = .bool (kn s 0) ∧ w2 = wd)
  case first =>
    cases h1 : (s.toList == [65, 110, 121])
    · cases h2 : (s.toList == [76])
      · cases h3 : (s.toList == [78])
        · have HK := hid (show kn s 0 = false by unfold kn; rw [h1, h2, h3]; rfl)
          go_wp2
          go_meet
          case rel => exact ⟨by rw [HK.out], rfl⟩
        · have HK := hid (show kn s 0 = true by unfold kn; rw [h1, h2, h3]; rfl)
          go_wp2
          go_meet
          case rel => exact ⟨by rw [HK.out], rfl⟩
      · have HK := hid (show kn s 0 = true by unfold kn; rw [h1, h2]; rfl)
        go_wp2
        go_meet
        case rel => exact ⟨by rw [HK.out], rfl⟩
    · have HK := hid (show kn s 0 = true by unfold kn; rw [h1]; rfl)
      go_wp2
      go_meet
      case rel => exact ⟨by rw [HK.out], rfl⟩
  obtain ⟨rfl, rfl⟩ := hcut
  go_wp2_with fail
  refine (refNames_any w2).mono ?_
  rintro e w3 ⟨lb, lc, rfl, hns, tc⟩
  replace T := hid (T.out.trans tc (fun _ _ e => e))
  replace RN := hid (RN.out.new tc)
  have NS := hid hns
  clear tc hns
  go_wp2_with fail
  go_loopg [9, 11] 15 (fun gk v i wr => ∃ k : Nat, k + gk = 15 ∧ i = .int .i64 (k : Nat) ∧ v = .bool (kn s k) ∧ w3 = wr)
  case atStart => exact ⟨0, rfl, rfl, rfl, rfl⟩
  case round =>
    obtain ⟨k, hk, rfl, rfl, rfl⟩ := hrel
    by_cases hlt : k < 15
    · obtain ⟨p, hp⟩ : ∃ p, refN[k]? = some p := ⟨refN[k]'(by simpa [refN] using hlt), List.getElem?_eq_getElem _⟩
      have c0 := NS.out.2 k p hp
      have HST := hid (kn_step s k p hp)
      have hkI : (k : Int) < 15 := by omega
      clear hp
      generalize hb : (p.toList == s.toList) = b at *
      have HB := hid hb
      cases hq : kn s k
      · rw [hq] at HST
        cases b
        · go_wp2_with fail
          go_roundg (gk - 1)
          case measure => omega
          case rel => exact ⟨k + 1, by omega, by go_num, by rw [HST.out]; rfl, rfl⟩
        · go_wp2_with fail
          go_roundg (gk - 1)
          case measure => omega
          case rel => exact ⟨k + 1, by omega, by go_num, by rw [HST.out]; rfl, rfl⟩
      · rw [hq] at HST
        clear hb
        go_wp2_with fail
        go_roundg (gk - 1)
        case measure => omega
        case rel => exact ⟨k + 1, by omega, by go_num, by rw [HST.out]; rfl, rfl⟩
    · obtain rfl : k = 15 := by omega
      obtain ⟨K, hK⟩ : ∃ K, kn s 15 = K := ⟨_, rfl⟩
      have HK := hid hK
      rw [hK]
      clear hK
      obtain ⟨X, hX⟩ : ∃ X, (decide (0 ≤ r ∧ r ≤ 1114111) && hasB r (lOf s)) = X := ⟨_, rfl⟩
      have KH := hid (has_says na nc n r w3 RN.out CN.out)
      rw [has_law (neg := false) HN.out] at KH
      simp only [Bool.false_eq_true, if_false] at KH
      rw [hX] at KH
      have HX := hid hX
      clear hX
      go_upto_region 10 with fail
      go_cut [76] (fun v wd => v = .bool false ∧ Touch (fun _ => False) w3 wd)
      case first =>
        cases K
        · have hl := lOf_unknown HK.out
          obtain rfl : n = [] := canon_one CN.out ⟨by simp, .nil⟩ (fun x => by
            rw [HN.out x, hl]
            exact ⟨fun q => absurd q.2 (in_nil x), fun q => absurd q (in_nil x)⟩)
          have hX0 : X = false := by rw [← HX.out, hl]; simp [hasB]
          subst hX0
          clear hl
          go_wp2_with fail
          refine KH.out.mono ?_
          rintro e w4 ⟨rfl, tq⟩
          have TQ := hid tq
          clear tq KH
          go_wp2
          go_meet
          case rel => exact ⟨rfl, TQ.out⟩
        · have KI := hid (fun wq => in_all s HK.out r wq)
          go_wp2_with fail
          refine KH.out.mono ?_
          rintro e w4 ⟨rfl, tq⟩
          have TQ := hid tq
          clear tq KH
          go_wp2_with fail
          refine (KI.out w4).mono ?_
          rintro e w5 ⟨he, tq⟩
          simp only [Bool.false_eq_true, if_false] at he
          rw [HX.out] at he
          subst he
          replace TQ := hid (TQ.out.trans tq (fun _ _ e => e))
          clear tq KI
          cases X
          · go_wp2
            go_meet
            case rel => exact ⟨rfl, TQ.out⟩
          · go_wp2
            go_meet
            case rel => exact ⟨rfl, TQ.out⟩
      obtain ⟨rfl, tcw⟩ := hcut
      have TW := hid (T.out.trans tcw (fun _ _ e => e))
      clear tcw KH T RN NS HX HK HN CN
      · go_wp2_with fail
        refine (perl_d wc).mono ?_
        rintro e w4 ⟨v, p, rfl, hcp, hip, owp⟩
        obtain ⟨pa, pc, hv, hrp⟩ := owp.rg
        subst hv
        have T4 := hid (TW.out.trans owp.touch (fun _ _ e => e))
        have KH := hid (has_says pa pc p r w4 hrp hcp)
        rw [has_law (neg := false) hip] at KH
        have KI := hid (fun wq => in_d r wq)
        simp only [Bool.false_eq_true, if_false] at KH
        clear owp hcp hip hrp
        generalize hY : (hasB r lNd) = Y at *
        go_upto_region 14 with fail
        go_cut [137] (fun v wd => v = .bool false ∧ Touch (fun _ => False) w4 wd)
        case first =>
          rcases out_cases r with ⟨h0, h1, hd⟩ | ⟨h0, hd⟩ | ⟨h0, h1, hd⟩
          · rw [hd] at KH
            have HD := hid hd
            clear hd
            go_wp2_with fail
            refine KH.out.mono ?_
            rintro e w5 ⟨he, tq⟩
            simp only [Bool.true_and] at he
            subst he
            have TQ := hid tq
            clear tq KH
            go_wp2_with fail
            rw [conv1 w5 _]
            go_wp2_with fail
            change Calls Tryd.prog 23 #[.string ⟨#[100]⟩, .int .i64 r] _ _
            refine (KI.out _).mono ?_
            rintro e w6 ⟨he, tq⟩
            rw [HD.out] at he
            simp only [Bool.false_eq_true, if_false, Bool.true_and] at he
            subst he
            replace TQ := hid ((TQ.out.alloc (.cells #[.int .u8 100] 5)).trans tq (fun _ _ e => e))
            clear tq KI hY
            cases Y
            · go_wp2
              go_meet
              case rel => exact ⟨rfl, TQ.out⟩
            · go_wp2
              go_meet
              case rel => exact ⟨rfl, TQ.out⟩
          · rw [hd] at KH
            clear hd KI
            go_wp2_with fail
            refine KH.out.mono ?_
            rintro e w5 ⟨he, tq⟩
            simp only [Bool.false_and] at he
            subst he
            have TQ := hid tq
            clear tq KH
            go_wp2
            go_meet
            case rel => exact ⟨rfl, TQ.out⟩
          · rw [hd] at KH
            clear hd KI
            have hd2 : decide (r ≤ 1114111) = false := decide_eq_false (by omega)
            go_wp2_with fail
            refine KH.out.mono ?_
            rintro e w5 ⟨he, tq⟩
            simp only [Bool.false_and] at he
            subst he
            have TQ := hid tq
            clear tq KH
            go_wp2
            go_meet
            case rel => exact ⟨rfl, TQ.out⟩
        obtain ⟨rfl, tcz⟩ := hcut
        have TX := hid (T4.out.trans tcz (fun _ _ e => e))
        clear tcz KH KI T4 hY
        go_wp2_with fail
        refine (names_any wc).mono ?_
        rintro e w7 ⟨nb, nnc, rfl, hns, tq⟩
        have NS := hid hns
        have T7 := hid (TX.out.trans tq (fun _ _ e => e))
        clear hns tq
        go_wp2_with fail
        go_loopg [16] 17 (fun gk i wr => ∃ k : Nat, k + gk = 17 ∧ i = .int .i64 ((k + 1 : Nat) : Int) ∧ Touch (fun _ => False) w7 wr)
        case atStart => exact ⟨0, rfl, rfl, Touch.refl _ _⟩
        case round =>
          obtain ⟨k, hk, rfl, htc⟩ := hrel
          have TR := hid htc
          have NR := hid (NS.out.new htc)
          clear htc
          by_cases hlt : k < 17
          · obtain ⟨p, hp⟩ : ∃ p, names18[k]? = some p := ⟨names18[k]'(by simp [names18, tableN]; omega), List.getElem?_eq_getElem _⟩
            obtain ⟨q, hq⟩ : ∃ q, names18[k + 1]? = some q := ⟨names18[k + 1]'(by simp [names18, tableN]; omega), List.getElem?_eq_getElem _⟩
            have c0 := NR.out.2 k p hp
            have c1 := NR.out.2 (k + 1) q hq
            have hbl := rise_at k hlt p q hp hq
            have hkI : ((k + 1 : Nat) : Int) < 18 := by omega
            clear hp hq
            go_wp2_with fail
            go_quiet (fail)
            go_wp2
            go_roundg (gk - 1)
            case measure => omega
            case rel => exact ⟨k + 1, by omega, by go_num, TR.out.drewN _⟩
          · obtain rfl : k = 17 := by omega
            go_wp2_with fail
            go_loopg [17] 18 (fun gk i wr => ∃ k : Nat, k + gk = 18 ∧ i = .int .i64 (k : Nat) ∧ Touch (fun _ => False) w7 wr)
            case atStart => exact ⟨0, rfl, rfl, TR.out⟩
            case round =>
              obtain ⟨k, hk, rfl, htc⟩ := hrel
              have TR2 := hid htc
              have NR2 := hid (NS.out.new htc)
              clear htc
              by_cases hlt : k < 18
              · obtain ⟨p, hp⟩ : ∃ p, names18[k]? = some p := ⟨names18[k]'(by simp [names18, tableN]; omega), List.getElem?_eq_getElem _⟩
                have c0 := NR2.out.2 k p hp
                have KC := hid (class_all p wr)
                rw [names_known k p hp] at KC
                have hkI : (k : Int) < 18 := by omega
                clear hp
                go_wp2_with fail
                refine KC.out.mono ?_
                rintro e w8 ⟨v, n', rfl, _, _, ow⟩
                have T8 := hid (TR2.out.trans ow.touch (fun _ _ e => e))
                obtain ⟨va, vc, hv⟩ := own_shape ow.own
                subst hv
                clear ow KC
                go_wp2_with fail
                go_roundg (gk - 1)
                case measure => omega
                case rel => exact ⟨k + 1, by omega, by go_num, T8.out⟩
              · obtain rfl : k = 18 := by omega
                go_wp2
                go_ret
                exact ⟨rfl, T7.out.trans TR2.out (fun _ _ e => e)⟩
end Go.Proofs.YtnngemdpoemhgaaDoor
