/- Texts of this proof, one behind the other: what each says stands ahead of it. -/
import Derived.Test.YtjpmjcadnnglnaaDoorRYc
import Derived.Test.YtjpmjcadnnglnaaDoorYj
/- Pairs in memory, and speaks; conditions: as told. -/
namespace Go.Proofs.YtjpmjcadnnglnaaDoor
open Go.RowKit
open Go.Lib

theorem PL.len {ty : TypeId} {w : World} {a : Option Addr} {n c : Nat} {ps : List (Nat × Nat)} (h : PL ty w (.slice a n c) ps) : n = ps.length := by
  obtain ⟨_, _, hh⟩ := own_shape h
  cases hh
  rfl
theorem pcl_get : ∀ (ps : List (Nat × Nat)) (i j : Nat) (p : Nat × Nat), ps[i]? = some p → j < 2 → (ps.flatMap pcl)[i * 2 + j]? = (pcl p)[j]?
  | [], i, j, p, h, _ => by cases h
  | q :: ps, 0, j, p, h, hj => by
    cases h
    rw [List.flatMap_cons, Nat.zero_mul, Nat.zero_add, List.getElem?_append_left (by exact hj)]
  | q :: ps, i + 1, j, p, h, hj => by
    have := pcl_get ps i j p h hj
    rw [List.flatMap_cons, List.getElem?_append_right (by show 2 ≤ _; omega)]
    rw [show (i + 1) * 2 + j - (pcl q).length = i * 2 + j from by show (i + 1) * 2 + j - 2 = _; omega]
    exact this
theorem PL.at {ty : TypeId} {w : World} {a : Option Addr} {n c : Nat} {ps : List (Nat × Nat)} (h : PL ty w (.slice a n c) ps) (i : Nat) (p : Nat × Nat) (hi : ps[i]? = some p) : ∃ g, a = some ⟨g, 0, none⟩ ∧ w.cell? ⟨g, i * 2, none⟩ = some (.int .i64 (p.1 : Nat)) ∧ w.cell? ⟨g, i * 2 + 1, none⟩ = some (.int .i64 (p.2 : Nat)) := by
  have hlt := (List.getElem?_eq_some_iff.1 hi).1
  rcases h.2 with ⟨_, h0⟩ | ⟨g, cap, cur, hv, hg, hh, rest⟩
  · omega
  · cases hv
    refine ⟨g, rfl, ?_, ?_⟩
    all_goals
      have h' := h
      unfold PL at h'
    · rw [show i * 2 = i * 2 + 0 from rfl, h'.cellAt (i * 2 + 0) (by omega), pcl_get ps i 0 p hi (by decide)]
      rfl
    · rw [h'.cellAt (i * 2 + 1) (by omega), pcl_get ps i 1 p hi (by decide)]
      rfl
def SPK : ByteArray := ⟨#[123, 34, 110, 97, 109, 101, 34, 58, 34, 97, 34, 44, 34, 108, 105, 110, 101, 34, 58, 50, 44, 34, 116, 101, 120, 116, 34, 58, 34, 120, 97, 121, 34, 44, 34, 115, 112, 97, 110, 115, 34, 58, 91, 91, 49, 44, 50, 93, 93, 125]⟩
theorem spk_read : rdE SPK = some (⟨#[97]⟩, 2, ⟨#[120, 97, 121]⟩, [(1, 2)]) := by kernel_rfl
set_option maxRecDepth 100000 in
set_option maxHeartbeats 4000000 in
theorem speaks_yes (w : World) (ht : Tabs w) : Calls Tryd.prog 4 #[] w fun e w' => e = .returned (.bool true) ∧ Touch (fun _ => False) w w' := by
  have k := read_any SPK w ht
  rw [spk_read] at k
  unfold SPK at k
  have K := hid k
  unfold RdP at K
  clear k ht
  go_enter Tryd.func4, Tryd.ntmps4
  go_wp2_with fail
  refine K.out.mono ?_
  rintro e w1 ⟨ad, m, cp, rfl, hp, t1⟩
  have T1 := hid t1
  have hm : m = 1 := hp.len
  subst hm
  obtain ⟨g, rfl, c0, c1⟩ := hp.at 0 (1, 2) rfl
  have e0 : w1.cell? ⟨g, 0, none⟩ = some (.int .i64 1) := c0
  have e1 : w1.cell? ⟨g, 1, none⟩ = some (.int .i64 2) := c1
  clear K t1 hp c0 c1
  go_wp2
  go_ret
  exact ⟨rfl, T1.out⟩
end Go.Proofs.YtjpmjcadnnglnaaDoor

/- PrintReads' walk, given what the document's Read answers; condition: the two tables of coding lie there. -/
namespace Go.Proofs.YtjpmjcadnnglnaaDoor
open Go.RowKit
open Go.Lib

set_option maxRecDepth 100000 in
set_option maxHeartbeats 8000000 in
theorem walk_none (s : ByteArray) (w : World) (ht : Tabs w) (KD0 : ∀ w, Calls Tryd.prog 6 #[.string s] w fun e w' => RdP 30 w (rdE s) e w') (hN : rdE s = none) :
    Calls Tryd.prog 3 #[.string s] w fun e w' => e = .returned (.bool true) ∧ Touch (fun _ => False) w w' := by
  have KS := hid (speaks_yes w ht)
  have KP := hid (fun w' (ht' : Tabs w') => read_any s w' ht')
  have KD := hid KD0
  rw [hN] at KP KD
  unfold RdP at KP KD
  have HT := hid ht
  clear ht KD0 hN
  go_enter Tryd.func3, Tryd.ntmps3
  go_wp2_with fail
  refine KS.out.mono ?_
  rintro e w1 ⟨rfl, t1⟩
  have T1 := hid t1
  clear t1 KS
  go_wp2_with fail
  refine (KP.out w1 (HT.out.new T1.out)).mono ?_
  rintro e w2 ⟨rfl, t2⟩
  have T2 := hid (T1.out.trans t2 (fun _ _ e => e))
  clear t2 KP T1
  go_wp2_with fail
  refine (KD.out w2).mono ?_
  rintro e w3 ⟨rfl, t3⟩
  have T3 := hid (T2.out.trans t3 (fun _ _ e => e))
  clear t3 KD T2
  go_wp2_with fail
  go_loopg [13] 0 (fun gk v13 wq => v13 = .int .i64 0 ∧ wq = w3)
  case atStart => exact ⟨rfl, rfl⟩
  case round =>
    obtain ⟨rfl, rfl⟩ := hrel
    go_wp2
    go_ret
    exact ⟨rfl, T3.out⟩
set_option maxRecDepth 100000 in
set_option maxHeartbeats 8000000 in
theorem walk_some (s : ByteArray) (w : World) (ht : Tabs w) (KD0 : ∀ w, Calls Tryd.prog 6 #[.string s] w fun e w' => RdP 30 w (rdE s) e w') (a c : ByteArray) (n : Nat) (l : List (Nat × Nat)) (hN : rdE s = some (a, n, c, l)) :
    Calls Tryd.prog 3 #[.string s] w fun e w' => e = .returned (.bool true) ∧ Touch (fun _ => False) w w' := by
  have KS := hid (speaks_yes w ht)
  have KP := hid (fun w' (ht' : Tabs w') => read_any s w' ht')
  have KD := hid KD0
  rw [hN] at KP KD
  unfold RdP at KP KD
  have HT := hid ht
  clear ht KD0 hN
  go_enter Tryd.func3, Tryd.ntmps3
  go_wp2_with fail
  refine KS.out.mono ?_
  rintro e w1 ⟨rfl, t1⟩
  have T1 := hid t1
  clear t1 KS
  go_wp2_with fail
  refine (KP.out w1 (HT.out.new T1.out)).mono ?_
  rintro e w2 ⟨ad, m, cp, rfl, hp, t2⟩
  have T2 := hid (T1.out.trans t2 (fun _ _ e => e))
  have P2 := hid hp
  clear t2 KP T1 hp
  go_wp2_with fail
  refine (KD.out w2).mono ?_
  rintro e w3 ⟨ad2, m2, cp2, rfl, hp2, t3⟩
  have T3 := hid (T2.out.trans t3 (fun _ _ e => e))
  have P3 := hid (show PL 31 w3 (.slice ad m cp) l from rowKept P2.out t3 (fun _ _ e => e))
  have Q3 := hid hp2
  have hm : m = m2 := P3.out.len.trans Q3.out.len.symm
  subst hm
  have HL := hid P3.out.len
  have hmx : m ≤ 9223372036854775807 := by rw [HL.out]; exact own_max P3.out
  clear t3 KD T2 P2 hp2
  go_wp2_with fail
  go_loopg [13] m (fun gk v13 wq => ∃ i : Nat, i + gk = m ∧ v13 = .int .i64 (i : Nat) ∧ Hid (Touch (fun _ => False) w3 wq))
  case atStart => exact ⟨0, by omega, rfl, hid (Touch.refl _ _)⟩
  case round =>
    obtain ⟨i, hi, rfl, TT⟩ := hrel
    by_cases hlt : i < m
    · have hltI : (i : Int) < (m : Int) := by omega
      obtain ⟨p, hp⟩ : ∃ p, l[i]? = some p := ⟨_, List.getElem?_eq_getElem (by rw [← HL.out]; exact hlt)⟩
      obtain ⟨p1, p2⟩ := p
      obtain ⟨g, rfl, x0, x1⟩ := PL.at (P3.out : PL 31 w3 (.slice ad m cp) l) i _ hp
      obtain ⟨g2, rfl, y0, y1⟩ := PL.at (Q3.out : PL 30 w3 (.slice ad2 m cp2) l) i _ hp
      dsimp only at x0 x1 y0 y1
      have l1 := World.block_lt_of_cell? w3 _ x0
      have l2 := World.block_lt_of_cell? w3 _ y0
      replace x0 := (TT.out.cell (p := ⟨g, i * 2, none⟩) l1 id).trans x0
      replace x1 := (TT.out.cell (p := ⟨g, i * 2 + 1, none⟩) l1 id).trans x1
      replace y0 := (TT.out.cell (p := ⟨g2, i * 2, none⟩) l2 id).trans y0
      replace y1 := (TT.out.cell (p := ⟨g2, i * 2 + 1, none⟩) l2 id).trans y1
      clear l1 l2 hp
      go_wp2_with fail
      go_quiet (fail)
      go_wp2
      go_roundg (gk - 1)
      case measure => omega
      case rel => exact ⟨i + 1, by omega, by go_num, hid (TT.out.trans ((Touch.refl (fun _ => False) wr).drewN nq) (fun _ _ e => e))⟩
    · have hltI : ¬ (i : Int) < (m : Int) := by omega
      go_wp2
      go_ret
      exact ⟨rfl, T3.out.trans TT.out (fun _ _ e => e)⟩
end Go.Proofs.YtjpmjcadnnglnaaDoor

/- The document's Read of an object, of any text; no condition. -/
namespace Go.Proofs.YtjpmjcadnnglnaaDoor
open Go.RowKit
open Go.Lib

theorem okv_kids {n : Nat} {k : Int} {t : ByteArray} {ks : List ByteArray} {kids : List JV} (h : OkV n (.node k t ks kids)) : ∀ x ∈ kids, ∃ m, OkV m x := by
  have key : ∀ (n : Nat) (x : JV), OkV n x → ∀ k t ks kids, x = .node k t ks kids → ∀ y ∈ kids, ∃ m, OkV m y := by
    intro n x hx k t ks kids e y hy
    cases hx with
    | word _ k hk =>
      cases e
      cases hy
    | num _ t hn hs =>
      cases e
      cases hy
    | text _ t hk =>
      cases e
      cases hy
    | row n kd l hk hK h5 hO =>
      cases e
      obtain ⟨i, hi, rfl⟩ := List.mem_map.1 hy
      exact ⟨n, hO i hi⟩
  exact key n _ h k t ks kids rfl
/-- The document's Read, of any text. -/
theorem dread_any (s : ByteArray) (w : World) : Calls Tryd.prog 6 #[.string s] w fun e w' => RdP 30 w (rdE s) e w' := by
  unfold rdE
  cases hP : parE s with
  | error e =>
    obtain ⟨ec, ek⟩ := e
    exact dread_err s w ec ek hP
  | ok x =>
    obtain ⟨hok, hlen⟩ := par_p hP
    obtain ⟨k, t, ks, kids⟩ := x
    simp only
    rw [read_eq]
    by_cases h6 : k = 6
    case neg =>
      rw [if_neg (fun h => h6 h.1)]
      exact dread_k s w k t ks kids hP h6
    subst h6
    by_cases h4 : ks.length = 4
    case neg =>
      rw [if_neg (by rintro ⟨_, h⟩; rw [h] at h4; exact h4 rfl)]
      exact dread_n s w t ks kids hP h4
    match ks, h4, hP, hok, hlen with
    | [x0, x1, x2, x3], _, hP, hok, hlen =>
      by_cases h0 : x0 = nmS
      case neg =>
        rw [if_neg (by rintro ⟨_, h⟩; cases h; exact h0 rfl)]
        exact dread_0 s w t x0 x1 x2 x3 kids hP h0
      subst h0
      by_cases h1 : x1 = lnS
      case neg =>
        rw [if_neg (by rintro ⟨_, h⟩; cases h; exact h1 rfl)]
        exact dread_1 s w t x1 x2 x3 kids hP h1
      subst h1
      by_cases h2 : x2 = txS
      case neg =>
        rw [if_neg (by rintro ⟨_, h⟩; cases h; exact h2 rfl)]
        exact dread_2 s w t x2 x3 kids hP h2
      subst h2
      by_cases h3 : x3 = spS
      case neg =>
        rw [if_neg (by rintro ⟨_, h⟩; cases h; exact h3 rfl)]
        exact dread_3 s w t x3 kids hP h3
      subst h3
      rw [if_pos ⟨rfl, rfl⟩]
      obtain ⟨g1, g2⟩ := okv_obj hok
      have g3 : kids.length = 4 := g1
      match kids, g3, g2, hP with
      | [.node ka ta sa la, .node kb tb sb lb, .node kc tc sc lc, .node kd td sd ld], _, g2, hP =>
        obtain ⟨o1, o2⟩ := g2 (.node kd td sd ld) (by simp)
        obtain ⟨o3, _⟩ := g2 (.node kb tb sb lb) (by simp)
        have o4 := kids_len o1
        refine dread_yes s w t ka kb kc kd ta tb tc td sa sb sc sd la lb lc ld hP (okv_num o3) ?_ (by
          show kidN (.node kd td sd ld) ≤ _
          omega)
        intro x hx k t ks kids e y hy k2 t2 ks2 kids2 e2
        subst e
        obtain ⟨m, hm⟩ := okv_kids o1 _ hx
        subst e2
        obtain ⟨m2, hm2⟩ := okv_kids hm _ hy
        exact okv_num hm2
end Go.Proofs.YtjpmjcadnnglnaaDoor

/- PrintReads' walk; condition: the two tables of coding lie there. -/
namespace Go.Proofs.YtjpmjcadnnglnaaDoor
open Go.RowKit

theorem printReads_walk (s : ByteArray) (w : World) (ht : Tabs w) (_hs : s.size ≤ 140737488355328) :
    Calls Tryd.prog 3 #[.string s] w fun e w' => e = .returned (.bool true) ∧ Touch (fun _ => False) w w' := by
  cases h : rdE s with
  | none => exact walk_none s w ht (fun w => dread_any s w) h
  | some x =>
    obtain ⟨a, n, c, l⟩ := x
    exact walk_some s w ht (fun w => dread_any s w) a c n l h
end Go.Proofs.YtjpmjcadnnglnaaDoor
