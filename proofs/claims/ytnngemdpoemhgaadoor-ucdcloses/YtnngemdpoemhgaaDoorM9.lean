/- Texts of this proof, one behind the other: what each says stands ahead of it. -/
import Derived.Test.YtnngemdpoemhgaaDoorM8
import Derived.Test.YtnngemdpoemhgaaDoorM7
/- The document's one: are two numbers one by one rule; condition: they are small. -/
namespace Go.Proofs.YtnngemdpoemhgaaDoor
open Go.RowKit

/-- The rings as they are laid. -/
def ringV (n : Nat) : Array Value := #[.slice (some ⟨n, 0, none⟩) 3 3, .slice (some ⟨n + 1, 0, none⟩) 3 3, .slice (some ⟨n + 1 + 1, 0, none⟩) 3 3, .slice (some ⟨n + 1 + 1 + 1, 0, none⟩) 3 3, .slice (some ⟨n + 1 + 1 + 1 + 1, 0, none⟩) 3 3]
def ringsW (w : World) : World := (((((w.alloc (.cells #[.int .i64 75, .int .i64 107, .int .i64 8490] 3)).alloc (.cells #[.int .i64 83, .int .i64 115, .int .i64 383] 3)).alloc (.cells #[.int .i64 197, .int .i64 229, .int .i64 8491] 3)).alloc (.cells #[.int .i64 181, .int .i64 924, .int .i64 956] 3)).alloc (.cells #[.int .i64 931, .int .i64 962, .int .i64 963] 3)).alloc (.cells (ringV w.heap.size) 23)
theorem rings_touch (w : World) : Touch (fun _ => False) w (ringsW w) := ((((((Touch.refl _ w).alloc _).alloc _).alloc _).alloc _).alloc _).alloc _
theorem push6 (h : Array Obj) (a b c d e f : Obj) (j : Nat) : ((((((h.push a).push b).push c).push d).push e).push f)[h.size + j]? = (#[a, b, c, d, e, f] : Array Obj)[j]? := by
  have : ((((((h.push a).push b).push c).push d).push e).push f) = h ++ #[a, b, c, d, e, f] := by
    apply Array.ext'
    simp
  rw [this, Array.getElem?_append_right (by omega)]
  simp
theorem rings_cells (w : World) (i : Nat) (h : i < 5) : (ringsW w).cell? ⟨w.heap.size + 5, i, none⟩ = some (.slice (some ⟨w.heap.size + i, 0, none⟩) 3 3) ∧ ∀ k (hk : k < 3), (ringsW w).cell? ⟨w.heap.size + i, k, none⟩ = some (.int .i64 ((ringsL[i]'(by simpa [ringsL] using h))[k]'(by rcases (show i = 0 ∨ i = 1 ∨ i = 2 ∨ i = 3 ∨ i = 4 by omega) with rfl | rfl | rfl | rfl | rfl <;> simpa [ringsL] using hk))) := by
  have e : ∀ j, j < 6 → (ringsW w).heap[w.heap.size + j]? = (#[Obj.cells #[.int .i64 75, .int .i64 107, .int .i64 8490] 3 (0, 0), .cells #[.int .i64 83, .int .i64 115, .int .i64 383] 3 (0, 0), .cells #[.int .i64 197, .int .i64 229, .int .i64 8491] 3 (0, 0), .cells #[.int .i64 181, .int .i64 924, .int .i64 956] 3 (0, 0), .cells #[.int .i64 931, .int .i64 962, .int .i64 963] 3 (0, 0), .cells (ringV w.heap.size) 23 (0, 0)] : Array Obj)[j]? := by
    exact fun j _ => push6 w.heap _ _ _ _ _ _ j
  refine ⟨?_, fun k hk => ?_⟩
  · have h5 := e 5 (by omega)
    unfold World.cell?
    rw [h5]
    rcases (show i = 0 ∨ i = 1 ∨ i = 2 ∨ i = 3 ∨ i = 4 by omega) with rfl | rfl | rfl | rfl | rfl <;> rfl
  · have h5 := e i (by omega)
    unfold World.cell?
    rw [h5]
    rcases (show i = 0 ∨ i = 1 ∨ i = 2 ∨ i = 3 ∨ i = 4 by omega) with rfl | rfl | rfl | rfl | rfl <;> rcases (show k = 0 ∨ k = 1 ∨ k = 2 by omega) with rfl | rfl | rfl <;> rfl

def hasZ (x : Int) (g : List Int) : Bool := g.any fun z => z == x
theorem hasZ_step (x : Int) (g : List Int) (k : Nat) (h : k < g.length) : hasZ x (g.take (k + 1)) = (hasZ x (g.take k) || (g[k] == x)) := by
  unfold hasZ
  rw [List.take_succ_eq_append_getElem h, List.any_append]
  simp
theorem hasZ_contains (x : Int) (g : List Int) : hasZ x g = g.contains x := by
  rw [Bool.eq_iff_iff]
  unfold hasZ
  simp [List.any_eq_true]
theorem rings_step (x y : Int) (k : Nat) (h : k < ringsL.length) (g : List Int) (hg : ringsL[k] = g) (h0 : (ringsL.take k).any (fun g => g.contains x && g.contains y) = false) : (ringsL.take (k + 1)).any (fun g => g.contains x && g.contains y) = (hasZ x g && hasZ y g) := by
  rw [List.take_succ_eq_append_getElem h, List.any_append, h0, hg, hasZ_contains, hasZ_contains]
  simp

set_option maxRecDepth 100000 in
set_option maxHeartbeats 8000000 in
theorem one_any (a b : Int) (w : World) (ha : -1000 ≤ a ∧ a ≤ 2000000) (hb : -1000 ≤ b ∧ b ≤ 2000000) :
    Calls Tryd.prog 27 #[.int .i64 a, .int .i64 b] w fun e w' => e = .returned (.bool (oneB a b)) ∧ Touch (fun _ => False) w w' := by
  go_enter Tryd.func27, Tryd.ntmps27
  go_upto_if 12 with fail
  go_cut [0, 1] (fun u v wd => ∃ x y : Int, u = .int .i64 x ∧ v = .int .i64 y ∧ x ≤ y ∧ -1000 ≤ x ∧ y ≤ 2000000 ∧ oneB a b = oneU x y ∧ w = wd)
  case first =>
    by_cases h : b < a
    · go_wp2
      go_meet
      case rel => exact ⟨b, a, rfl, rfl, by omega, by omega, by omega, by unfold oneB; rw [if_pos (by omega)], rfl⟩
    · go_wp2
      go_meet
      case rel => exact ⟨a, b, rfl, rfl, by omega, by omega, by omega, by unfold oneB; rw [if_neg (by omega)], rfl⟩
  obtain ⟨x, y, rfl, rfl, hxy, hx, hy, heq, rfl⟩ := hcut
  have HQ := hid heq
  clear heq ha hb
  by_cases he : x = y
  · subst he
    have HO := hid (show oneB a b = true by rw [HQ.out]; unfold oneU; simp)
    go_wp2
    go_ret
    exact ⟨by rw [HO.out]; rfl, Touch.refl _ _⟩
  have hed : decide (x = y) = false := decide_eq_false he
  have HO := hid (show oneB a b = (((y - x == 32) && hasB x lOne) || ((y - x == 40) && (decide (66560 ≤ x) && decide (x ≤ 66599))) || ringB x y) by rw [HQ.out]; unfold oneU; rw [show (x == y) = false by simpa using he]; simp)
  clear HQ
  go_upto_region 5 with fail
  go_cut [26] (fun v wd => ∃ B1 : Bool, v = .bool B1 ∧ ((y - x == 32) && hasB x lOne) = B1 ∧ Touch (fun _ => False) w wd)
  case first =>
    by_cases h : y - x = 32
    · have KI := hid (in43 (some ⟨w.heap.size, 0, none⟩) 12 lOne x (w.alloc (.cells ((ends lOne).map (Value.int .i64)).toArray 3)) (ig_alloc w (ends lOne) 3) (by decide))
      have hd : decide (y - x = 32) = true := decide_eq_true h
      have TA := hid ((Touch.refl (fun _ => False) w).alloc (.cells ((ends lOne).map (Value.int .i64)).toArray 3))
      go_wp2_with fail
      refine KI.out.mono ?_
      rintro e w1 ⟨rfl, rfl⟩
      go_wp2
      go_meet
      case rel => exact ⟨_, rfl, by rw [h]; simp, TA.out⟩
    · have hd : decide (y - x = 32) = false := decide_eq_false h
      go_wp2
      go_meet
      case rel => exact ⟨_, rfl, by rw [show (y - x == 32) = false by simpa using h]; rfl, Touch.refl _ _⟩
  obtain ⟨B1, rfl, hB, tc⟩ := hcut
  have T := hid tc
  rw [hB] at HO
  clear tc hB
  cases B1
  case true =>
    go_wp2
    go_ret
    exact ⟨by rw [HO.out]; simp, T.out⟩
  obtain ⟨w1, hw1⟩ : ∃ w1, w1 = wc := ⟨_, rfl⟩
  subst hw1
  go_upto_region 7 with fail
  go_cut [38] (fun v wd => ∃ B2 : Bool, v = .bool B2 ∧ ((y - x == 40) && (decide (66560 ≤ x) && decide (x ≤ 66599))) = B2 ∧ w1 = wd)
  case first =>
    by_cases h : y - x = 40
    · have hd : decide (y - x = 40) = true := decide_eq_true h
      by_cases h1 : 66560 ≤ x
      · by_cases h2 : x ≤ 66599
        · go_wp2
          go_meet
          case rel => exact ⟨_, rfl, by simp [h, h1, h2], rfl⟩
        · have hd2 : decide (x ≤ 66599) = false := decide_eq_false h2
          go_wp2
          go_meet
          case rel => exact ⟨_, rfl, by simp [hd2], rfl⟩
      · have hd1 : decide (66560 ≤ x) = false := decide_eq_false h1
        go_wp2
        go_meet
        case rel => exact ⟨_, rfl, by simp [hd1], rfl⟩
    · have hd : decide (y - x = 40) = false := decide_eq_false h
      go_wp2
      go_meet
      case rel => exact ⟨_, rfl, by rw [show (y - x == 40) = false by simpa using h]; rfl, rfl⟩
  obtain ⟨B2, rfl, hB, rfl⟩ := hcut
  rw [hB] at HO
  clear hB
  cases B2
  case true =>
    go_wp2
    go_ret
    exact ⟨by rw [HO.out]; simp, T.out⟩
  have HO2 := hid (show oneB a b = ringB x y by rw [HO.out]; simp)
  clear HO he hed
  go_upto_region 10 with fail
  change Code.wp Tryd.prog _ _ _ (ringsW w1)
  have RC := hid (rings_cells w1)
  replace T := hid (T.out.trans (rings_touch w1) (fun _ _ e => e))
  generalize ringsW w1 = wR at *
  obtain ⟨n, hn⟩ : ∃ n, n = w1.heap.size := ⟨_, rfl⟩
  rw [← hn] at RC ⊢
  clear hn
  go_wp2_with fail
  go_loopg [6] 5 (fun gk i wq => ∃ k : Nat, k + gk = 5 ∧ i = .int .i64 (k : Nat) ∧ (ringsL.take k).any (fun g => g.contains x && g.contains y) = false ∧ wR = wq)
  case atStart => exact ⟨0, rfl, rfl, rfl, rfl⟩
  case round =>
    obtain ⟨k, hk, rfl, hno, rfl⟩ := hrel
    have HN := hid hno
    obtain ⟨G, hG⟩ : ∃ G, G = gk := ⟨_, rfl⟩
    have HG := hid hG
    clear hG hno
    by_cases hlt : k < 5
    · obtain ⟨r0, r1⟩ := RC.out k hlt
      obtain ⟨g, hg⟩ : ∃ g, g = ringsL[k]'(by simpa [ringsL] using hlt) := ⟨_, rfl⟩
      have hgl : g.length = 3 := by rw [hg]; rcases (show k = 0 ∨ k = 1 ∨ k = 2 ∨ k = 3 ∨ k = 4 by omega) with rfl | rfl | rfl | rfl | rfl <;> rfl
      have HR1 := hid (show ∀ j (hj : j < g.length), wR.cell? ⟨n + k, j, none⟩ = some (.int .i64 g[j]) by subst hg; exact fun j hj => r1 j (by omega))
      have HST := hid (rings_step x y k (by simpa [ringsL] using hlt) g hg.symm HN.out)
      have hkI : (k : Int) < 5 := by omega
      clear r1 hg RC
      go_wp2_with fail
      go_loopg [7, 8, 9] 3 (fun g2 v u i wq => ∃ j : Nat, j + g2 = 3 ∧ i = .int .i64 (j : Nat) ∧ v = .bool (hasZ x (g.take j)) ∧ u = .bool (hasZ y (g.take j)) ∧ wR = wq)
      case atStart => exact ⟨0, rfl, rfl, rfl, rfl, rfl⟩
      case round =>
        obtain ⟨j, hj, rfl, rfl, rfl, rfl⟩ := hrel
        by_cases hjl : j < 3
        · have hjg : j < g.length := by omega
          have d0 := HR1.out j hjg
          have HX := hid (hasZ_step x g j hjg)
          have HY := hid (hasZ_step y g j hjg)
          have hjI : (j : Int) < 3 := by omega
          generalize g[j] = z at *
          obtain ⟨X, hX⟩ : ∃ X, X = hasZ x (g.take j) := ⟨_, rfl⟩
          obtain ⟨Y, hY⟩ : ∃ Y, Y = hasZ y (g.take j) := ⟨_, rfl⟩
          rw [← hX] at HX ⊢
          rw [← hY] at HY ⊢
          clear hX hY
          obtain ⟨zx, hzx⟩ : ∃ B, decide (z = x) = B := ⟨_, rfl⟩
          obtain ⟨zy, hzy⟩ : ∃ B, decide (z = y) = B := ⟨_, rfl⟩
          have HX2 := hid (show hasZ x (g.take (j + 1)) = (X || zx) by rw [HX.out, ← hzx]; rfl)
          have HY2 := hid (show hasZ y (g.take (j + 1)) = (Y || zy) by rw [HY.out, ← hzy]; rfl)
          have ezx : (z == x) = zx := by rw [← hzx]; rfl
          have ezy : (z == y) = zy := by rw [← hzy]; rfl
          clear HX HY
          cases X <;> cases Y <;> cases zx <;> cases zy
          all_goals
            go_wp2
            go_roundg (gk - 1)
            case measure => omega
            case rel => exact ⟨j + 1, by omega, by go_num, by rw [HX2.out]; rfl, by rw [HY2.out]; rfl, rfl⟩
        · obtain rfl : j = 3 := by omega
          rw [show g.take 3 = g by rw [← hgl, List.take_length]]
          obtain ⟨X, hX⟩ : ∃ X, X = hasZ x g := ⟨_, rfl⟩
          obtain ⟨Y, hY⟩ : ∃ Y, Y = hasZ y g := ⟨_, rfl⟩
          rw [← hX, ← hY] at HST
          rw [← hX, ← hY]
          clear hX hY
          cases X <;> cases Y
          case true.true =>
            have HR := hid (show ringB x y = true by
              unfold ringB
              rw [← List.take_append_drop (k + 1) ringsL, List.any_append, HST.out]
              rfl)
            go_wp2
            go_ret
            exact ⟨by rw [HO2.out, HR.out]; rfl, T.out⟩
          all_goals
            have HF := hid (show (ringsL.take (k + 1)).any (fun g => g.contains x && g.contains y) = false by rw [HST.out]; rfl)
            go_wp2
            go_roundg (G - 1)
            case measure => have := HG.out; omega
            case rel => exact ⟨k + 1, by have := HG.out; omega, by go_num, HF.out, rfl⟩
    · obtain rfl : k = 5 := by omega
      have HR := hid (show ringB x y = false from HN.out)
      go_wp2
      go_ret
      exact ⟨by rw [HO2.out, HR.out]; rfl, T.out⟩
end Go.Proofs.YtnngemdpoemhgaaDoor

/- Closed sets, plain facts: closing twice, how many numbers; no condition beside those told. -/
namespace Go.Proofs.YtnngemdpoemhgaaDoor

/-- What holds of the orbit of a number. -/
structure Orb (r : Int) : Prop where
  doc : orbD r (triesL r) = orbS (capOf r)
  one : ∀ y ∈ orbS (capOf r), capOf y = capOf r ∧ 0 ≤ y ∧ y ≤ 1114111
  few : (orbS (capOf r)).length ≤ 3
  self : r ∈ orbS (capOf r)
  alone : orbS (capOf r) = [r] ∨ capOf r ∈ capsTo 7
theorem orb_facts (r : Int) (hr : 0 ≤ r ∧ r ≤ 1114111) : Orb r := by
  by_cases h : In r relL
  · have k := List.all_eq_true.1 all_good r (mem_all h)
    unfold goodR at k
    simp only [Bool.and_eq_true, Bool.or_eq_true, beq_iff_eq, decide_eq_true_eq, List.all_eq_true, List.contains_iff_mem] at k
    obtain ⟨⟨⟨⟨k1, k2⟩, k3⟩, k4⟩, k5⟩ := k
    exact ⟨by rw [orb_quick]; exact k1, fun y hy => ⟨(k2 y hy).1.1, (k2 y hy).1.2, (k2 y hy).2⟩, k3, k4, k5⟩
  · have e := cap_far h
    have f := orbS_far h
    refine ⟨?_, ?_, ?_, ?_, ?_⟩
    · rw [e, f]; exact orb_far h
    · rw [e, f]
      intro y hy
      obtain rfl : y = r := by simpa using hy
      exact ⟨e, hr⟩
    · rw [e, f]; simp
    · rw [e, f]; simp
    · rw [e]; exact .inl f
set_option maxRecDepth 1000000 in
theorem caps_all : (capsTo 7).all (fun c => (capOf c == c) && decide (0 ≤ c) && decide (c ≤ 1114111)) = true := by decide +kernel
theorem caps_in {c : Int} (h : c ∈ capsTo 7) : capOf c = c ∧ 0 ≤ c ∧ c ≤ 1114111 := by
  have := List.all_eq_true.1 caps_all c h
  simp only [Bool.and_eq_true, beq_iff_eq, decide_eq_true_eq] at this
  exact ⟨this.1.1, this.1.2, this.2⟩
theorem clo_iff (s : List R2) (x : Int) (hx : 0 ≤ x ∧ x ≤ 1114111) : Clo s x ↔ ∃ y ∈ orbS (capOf x), In y s := by
  have O := orb_facts x hx
  unfold Clo
  rw [in_more]
  constructor
  · rintro (h | ⟨_, c, hc, ⟨y, hy, h⟩, k⟩)
    · exact ⟨x, O.self, h⟩
    · have C := orb_facts c (caps_in hc).2
      rw [(C.one x k).1]
      exact ⟨y, hy, h⟩
  · rintro ⟨y, hy, h⟩
    rcases O.alone with e | e
    · rw [e] at hy
      obtain rfl : y = x := by simpa using hy
      exact .inl h
    · refine .inr ⟨hx, capOf x, e, ?_⟩
      rw [(caps_in e).1]
      exact ⟨⟨y, hy, h⟩, O.self⟩
theorem clo_in {s : List R2} (hs : Canon s) {x : Int} (h : Clo s x) : 0 ≤ x ∧ x ≤ 1114111 := by
  rcases h with ⟨r, hr, h1, h2⟩ | h
  · have := hs.in_ r hr
    unfold inB at this
    omega
  · exact h.1
theorem clo_clo {s c : List R2} (hc : Canon c) (h : ∀ x, In x c ↔ Clo s x) (x : Int) : Clo c x ↔ In x c := by
  constructor
  · intro k
    have hx := clo_in hc k
    obtain ⟨y, hy, k⟩ := (clo_iff c x hx).1 k
    have O := orb_facts x hx
    obtain ⟨e, hy2⟩ := O.one y hy
    obtain ⟨z, hz, k⟩ := (clo_iff s y hy2).1 ((h y).1 k)
    rw [e] at hz
    exact (h x).2 ((clo_iff s x hx).2 ⟨z, hz, k⟩)
  · exact fun k => .inl k
theorem len_le : ∀ (l m : List Nat), l.Nodup → (∀ x ∈ l, x ∈ m) → l.length ≤ m.length
  | [], m, _, _ => Nat.zero_le _
  | x :: l, m, hn, hs => by
    have hp := List.nodup_cons.1 hn
    have hx := hs x (by simp)
    have ih := len_le l (m.erase x) hp.2 (fun y hy => by
      have hne : y ≠ x := fun e => hp.1 (e ▸ hy)
      exact (List.mem_erase_of_ne hne).2 (hs y (by simp [hy])))
    have hl := List.length_erase_of_mem hx
    have hpos : 0 < m.length := List.length_pos_of_mem hx
    rw [List.length_cons]
    omega
theorem flat_len (f : Nat → List Nat) (h : ∀ x, (f x).length ≤ 3) : ∀ l : List Nat, (l.flatMap f).length ≤ 3 * l.length
  | [] => by simp
  | x :: l => by
    have h1 := flat_len f h l
    have h2 := h x
    rw [List.flatMap_cons, List.length_append, List.length_cons]
    omega
/-- The orbit as natural numbers, of those that there are. -/
def orbN (y : Nat) : List Nat := (orbS (capOf (y : Int))).map Int.toNat
theorem clo_count {s c : List R2} (h : ∀ x, In x c ↔ Clo s x) (N : Nat) (hN : (N : Int) = 1114112) : cnt N (fun i => hasB i c) ≤ 3 * cnt N (fun i => hasB i s) := by
  unfold cnt
  rw [List.countP_eq_length_filter, List.countP_eq_length_filter]
  have h1 := flat_len (fun y : Nat => if (y : Int) < 1114112 then orbN y else []) (fun y => by
    split
    · unfold orbN
      rw [List.length_map]; exact (orb_facts y (by omega)).few
    · simp) ((List.range N).filter fun i : Nat => hasB (i : Int) s)
  have h2 := len_le ((List.range N).filter fun i : Nat => hasB (i : Int) c) (((List.range N).filter fun i : Nat => hasB (i : Int) s).flatMap (fun y : Nat => if (y : Int) < 1114112 then orbN y else [])) (List.Pairwise.filter _ List.nodup_range) (fun x hx => by
    obtain ⟨hx1, hx2⟩ := List.mem_filter.1 hx
    rw [List.mem_range] at hx1
    rw [hasB_iff, h] at hx2
    have hxb : (0 : Int) ≤ x ∧ (x : Int) ≤ 1114111 := by omega
    obtain ⟨y, hy, k⟩ := (clo_iff s x hxb).1 hx2
    obtain ⟨e, hy2⟩ := (orb_facts x hxb).one y hy
    rw [List.mem_flatMap]
    refine ⟨y.toNat, List.mem_filter.2 ⟨List.mem_range.2 (by omega), ?_⟩, ?_⟩
    · rw [Int.toNat_of_nonneg hy2.1, hasB_iff]; exact k
    · unfold orbN
      rw [if_pos (by omega), Int.toNat_of_nonneg hy2.1, e, List.mem_map]
      exact ⟨x, (orb_facts x hxb).self, by simp⟩)
  exact Nat.le_trans h2 h1
theorem clo_size {s c : List R2} (hs : Canon s) (hc : Canon c) (h : ∀ x, In x c ↔ Clo s x) : sizeL c ≤ 3 * sizeL s := by
  have h1 := size_cnt hs
  have h2 := size_cnt hc
  have key : ∀ N : Nat, (N : Int) = 1114112 → sizeL s = (cnt N (fun i => hasB i s) : Nat) → sizeL c = (cnt N (fun i => hasB i c) : Nat) → sizeL c ≤ 3 * sizeL s := by
    intro N hN h1 h2
    have := clo_count h N hN
    omega
  exact key 1114112 rfl h1 h2
end Go.Proofs.YtnngemdpoemhgaaDoor
