/- Texts of this proof, one behind the other: what each says stands ahead of it. -/
import Derived.Test.YtabhlhgfacpohaaDoorM9
import Derived.Lib.AppendStr
/- Decode of x and any text, not strict: its scalars; conditions: the two tables lie there, the text is not too long. -/
namespace Go.Proofs.YtabhlhgfacpohaaDoor
open Go.RowKit

theorem dc_loose (s : ByteArray) (c : Nat) : ∀ (k i : Nat) (rs ps : List Int) (bad : Nat), (dcGo s c false k i rs ps bad).1 = none
  | 0, _, _, _, _ => rfl
  | k + 1, i, rs, ps, bad => by
    by_cases h : i < s.size
    · rw [dc_step h]
      split
      · rw [if_neg (by decide)]
        exact dc_loose s c k _ _ _ _
      · exact dc_loose s c k _ _ _ _
    · rw [dc_end (by omega)]
/-- The scalars from a place on. -/
def scF (s : ByteArray) : Nat → Nat → List Int
  | 0, _ => []
  | k + 1, i => if i < s.size then (if (tkAt s 1 i).1 = -1 then 65533 else (tkAt s 1 i).1) :: scF s k (i + (tkAt s 1 i).2) else []
theorem dc_sc (s : ByteArray) : ∀ (k i : Nat) (rs ps : List Int) (bad : Nat), (dcGo s 1 false k i rs ps bad).2.1 = rs ++ scF s k i
  | 0, _, rs, _, _ => by simp [dcGo, scF]
  | k + 1, i, rs, ps, bad => by
    by_cases h : i < s.size
    · rw [dc_step h, scF, if_pos h]
      split
      · rw [if_neg (by decide), dc_sc s k, List.append_assoc]
        rfl
      · rw [dc_sc s k, List.append_assoc]
        rfl
    · rw [dc_end (by omega), scF, if_neg h, List.append_nil]
theorem tkGo_in (s : ByteArray) (m : Nat) : ∀ (k i sc lo hi : Nat), (tkGo s m k i sc lo hi).1 = -1 ∨ 0 ≤ (tkGo s m k i sc lo hi).1
  | 0, _, sc, _, _ => by unfold tkGo; right; simp only; omega
  | k + 1, i, sc, lo, hi => by
    unfold tkGo
    split
    · exact .inl rfl
    · exact tkGo_in s m k _ _ _ _
theorem tk1_in (s : ByteArray) (i : Nat) : (tkAt s 1 i).1 = -1 ∨ 0 ≤ (tkAt s 1 i).1 := by
  unfold tkAt
  rw [if_neg (by decide), if_neg (by decide), if_neg (by decide)]
  unfold tk8
  split
  · exact .inl rfl
  · exact tkGo_in _ _ _ _ _ _ _
theorem scF_in (s : ByteArray) : ∀ (k i : Nat), ∀ x ∈ scF s k i, 0 ≤ x
  | 0, _ => by simp [scF]
  | k + 1, i => by
    intro x hx
    rw [scF] at hx
    split at hx
    · rcases List.mem_cons.1 hx with e | e
      · rw [e]
        split
        · decide
        · rename_i h
          exact (tk1_in s i).resolve_left h
      · exact scF_in s k _ x e
    · cases hx
theorem scF_len (s : ByteArray) : ∀ (k i : Nat), (scF s k i).length ≤ k
  | 0, _ => by simp [scF]
  | k + 1, i => by
    rw [scF]
    split
    · have := scF_len s k (i + (tkAt s 1 i).2)
      simp only [List.length_cons]
      omega
    · simp
/-- A text's scalars, U+FFFD for what is bad. -/
def scs (s : ByteArray) : List Nat := (scF (xs s) s.size 1).map Int.toNat
theorem scs_len (s : ByteArray) : (scs s).length ≤ s.size := by
  unfold scs
  rw [List.length_map]
  exact scF_len _ _ _
theorem scF_x (s : ByteArray) : scF (xs s) (xs s).size 0 = 120 :: scF (xs s) s.size 1 := by
  have h : 0 < (xs s).size := by rw [xs_size]; omega
  have e := tk_ascii (xs s) 0 h (by rw [xs_zero]; decide)
  rw [xs_zero] at e
  rw [xs_size, scF, if_pos h, e, if_neg (by decide)]
  rfl
theorem decX_any (s : ByteArray) (hs : s.size ≤ 1099511627000) : DecX s (scs s) := by
  intro w ht
  have k := decode_any (xs s) 1 false w ht (by rw [xs_size]; omega) (by decide)
  rw [xs_bg] at k
  refine k.mono ?_
  intro e w' h
  rcases h with ⟨i, h1, _⟩ | ⟨_, h2⟩
  · rw [dc_loose] at h1
    cases h1
  · obtain ⟨v1, v2, he, o1, o2⟩ := h2.ex
    rw [show (((1 : Nat), (0 : Nat)).1) = 1 from rfl, show (((1 : Nat), (0 : Nat)).2) = 0 from rfl] at he o1 o2
    rw [dc_sc, List.nil_append, scF_x] at o1
    have hl : (120 :: scF (xs s) s.size 1).length = (scs s).length + 1 := by unfold scs; simp
    obtain ⟨a2, c2, rfl⟩ := own_shape o2.own
    rcases o1.own.2 with ⟨_, h0⟩ | ⟨g, cap, cur, hv, hg, hh, hcap, rest⟩
    · rw [hl] at h0
      omega
    · rw [hv] at he
      rw [hl] at he hcap
      refine ⟨g, cap, a2, _, c2, _, he, o1.touch, o1.new g (by rw [hv]; rfl), lt_of_block hh, by omega, ?_⟩
      intro i x hx
      have h1 : (120 :: scF (xs s) s.size 1)[i + 1]? = some (x : Int) := by
        rw [List.getElem?_cons_succ]
        unfold scs at hx
        rw [List.getElem?_map] at hx
        cases hy : (scF (xs s) s.size 1)[i]? with
        | none => rw [hy] at hx; cases hx
        | some y =>
          rw [hy] at hx
          have := scF_in (xs s) s.size 1 y (List.mem_of_getElem? hy)
          cases hx
          rw [Int.toNat_of_nonneg this]
      have h2 := o1.own.cells (g := g) (by rw [hv]; rfl) (i + 1) (.int .i64 (x : Int)) (by unfold encI; rw [List.getElem?_map, h1]; rfl)
      rwa [add_g] at h2
end Go.Proofs.YtabhlhgfacpohaaDoor

/- quoteOne of what is below 128, Quote, speaks, and Show of a number; condition: the two tables lie there. -/
namespace Go.Proofs.YtabhlhgfacpohaaDoor
open Go.RowKit
open Go.Lib

def escB (x : Nat) : Option UInt8 := if x = 34 then some 34 else if x = 92 then some 92 else if x = 8 then some 98 else if x = 12 then some 102 else if x = 10 then some 110 else if x = 13 then some 114 else if x = 9 then some 116 else none
/-- A scalar's bytes. -/
def ub (x : Nat) : Bs := if x < 128 then [x.toUInt8] else if x < 2048 then [(192 + x / 64).toUInt8, (128 + x % 64).toUInt8] else if x < 65536 then [(224 + x / 4096).toUInt8, (128 + x / 64 % 64).toUInt8, (128 + x % 64).toUInt8] else [(240 + x / 262144).toUInt8, (128 + x / 4096 % 64).toUInt8, (128 + x / 64 % 64).toUInt8, (128 + x % 64).toUInt8]
def hexL : Bs := [48, 49, 50, 51, 52, 53, 54, 55, 56, 57, 97, 98, 99, 100, 101, 102]
def qo (x : Nat) : Bs := match escB x with
  | some c => [92, c]
  | none => if x < 32 then [92, 117, 48, 48, hexL.getD (x / 16) 0, hexL.getD (x % 16) 0] else ub x
theorem qo_len (x : Nat) : (qo x).length ≤ 6 := by
  unfold qo
  split
  · exact Nat.le_of_ble_eq_true rfl
  · split
    · exact Nat.le_of_ble_eq_true rfl
    · unfold ub
      split
      · exact Nat.le_of_ble_eq_true rfl
      · split
        · exact Nat.le_of_ble_eq_true rfl
        · split
          · exact Nat.le_of_ble_eq_true rfl
          · exact Nat.le_of_ble_eq_true rfl
def lettersL : Bs := [34, 92, 98, 102, 110, 114, 116, 47]
def idxOf (x : Nat) : Int := indexByte signsB.data.toList x.toUInt8
/-- Which it is. -/
def idxOk (x : Nat) : Bool := match escB x with
  | some c => decide (x ≠ 47) && decide (0 ≤ idxOf x) && decide (idxOf x < 8) && (lettersL.getD (idxOf x).toNat 0 == c)
  | none => decide (idxOf x < 0 ∨ x = 47)
set_option maxRecDepth 100000 in
theorem idx_all : ∀ x, x < 128 → idxOk x = true := by decide
theorem hex_at (y : Nat) (h : y < 16) : hexB[y]'(by show y < 16; exact h) = hexL.getD y 0 := by
  rcases (show y = 0 ∨ y = 1 ∨ y = 2 ∨ y = 3 ∨ y = 4 ∨ y = 5 ∨ y = 6 ∨ y = 7 ∨ y = 8 ∨ y = 9 ∨ y = 10 ∨ y = 11 ∨ y = 12 ∨ y = 13 ∨ y = 14 ∨ y = 15 by omega) with rfl | rfl | rfl | rfl | rfl | rfl | rfl | rfl | rfl | rfl | rfl | rfl | rfl | rfl | rfl | rfl <;> rfl
theorem let_at (y : Nat) (h : y < 8) : lettersB[y]'(by show y < 8; exact h) = lettersL.getD y 0 := by
  rcases (show y = 0 ∨ y = 1 ∨ y = 2 ∨ y = 3 ∨ y = 4 ∨ y = 5 ∨ y = 6 ∨ y = 7 by omega) with rfl | rfl | rfl | rfl | rfl | rfl | rfl | rfl <;> rfl
set_option maxRecDepth 100000 in
theorem idx_low : ∀ x, x < 32 → escB x = none → idxOf x = -1 := by decide
theorem rune_ascii (x : Nat) (hx : x < 128) (w : World) : Calls Tryd.prog 65 #[.string signsB, .int .i32 (x : Nat)] w fun e w' => e = .returned (.int .i64 (idxOf x)) ∧ w' = w := by
  have k := Any.strings_IndexRune_ascii Tryd.lays152 signsB (x : Nat) w (by omega) (by omega)
  rw [show ((x : Nat) : Int).toNat = x from by omega] at k
  exact k
theorem one_ascii (x : Nat) (hx : x < 128) : QOne qo x := by
  intro l v w ho hl
  have hi := idx_all x hx
  unfold idxOk at hi
  have K := rune_ascii x hx
  cases he : escB x with
  | some c =>
    rw [he] at hi
    simp only [Bool.and_eq_true, decide_eq_true_eq, beq_iff_eq] at hi
    obtain ⟨⟨⟨h1, h2⟩, h3⟩, h4⟩ := hi
    obtain ⟨p, hp⟩ : ∃ p : Nat, idxOf x = (p : Int) := ⟨(idxOf x).toNat, by omega⟩
    rw [hp] at K h2 h3 h4
    have hp8 : p < 8 := by omega
    have k := quote_esc x p c l v w ho hl (by omega) h1 hp8 (by rw [let_at p hp8, ← h4]; rfl) K
    rw [show qo x = [92, c] from by unfold qo; rw [he]]
    exact k
  | none =>
    rw [he] at hi
    simp only [decide_eq_true_eq] at hi
    by_cases h32 : x < 32
    · have hneg : idxOf x = -1 := idx_low x h32 he
      rw [hneg] at K
      have k := quote_low x _ _ l v w ho hl h32 (hex_at (x / 16) (by omega)) (hex_at (x % 16) (by omega)) K
      rw [show qo x = [92, 117, 48, 48, hexL.getD (x / 16) 0, hexL.getD (x % 16) 0] from by unfold qo; rw [he]; simp only; rw [if_pos h32]]
      exact k
    · have hu : qo x = [x.toUInt8] := by unfold qo; rw [he]; simp only; rw [if_neg h32]; unfold ub; rw [if_pos hx]
      rw [hu]
      exact quote_self x (idxOf x) [x.toUInt8] l v w ho (by omega) (by omega) hi K (fun w ho => append_ascii x l v w ho hl hx)
set_option maxRecDepth 100000 in
set_option maxHeartbeats 4000000 in
theorem quote_str (s : ByteArray) (w : World) (ht : Tabs w) (hs : s.size ≤ 1048576) (KQ : ∀ x ∈ scs s, QOne qo x) :
    Calls Tryd.prog 11 #[.string s] w fun e w' => e = .returned (.string ⟨(34 :: ((scs s).flatMap qo ++ [34])).toArray⟩) ∧ Touch (fun _ => False) w w' := by
  have K := hid (quote_of qo s (scs s) [] (.slice none 0 0) w ht (OB.nil w) (by have := scs_len s; simp only [List.length_nil]; omega) (by have := scs_len s; omega) (by omega) (fun x _ => qo_len x) (decX_any s (by omega)) KQ)
  clear ht KQ
  go_enter Tryd.func11, Tryd.ntmps11
  go_wp2_with fail
  refine K.out.mono ?_
  rintro e w1 ⟨v', rfl, g⟩
  have hconv := g.own.conv
  have G := hid (g.touch.mono (S' := fun _ => False) (fun k _ e => by cases e))
  clear g K
  go_wp2
  go_ret
  exact ⟨rfl, G.out⟩
end Go.Proofs.YtabhlhgfacpohaaDoor

/- speaks, show and Show of a number; condition: the two tables lie there. -/
namespace Go.Proofs.YtabhlhgfacpohaaDoor
open Go.RowKit
open Go.Lib

theorem run_append_string_at {P : Program} (w : World) (t u ty e : TypeId) (i : TypeInfo) (ht : P.underlying t = some (.slice e)) (hu : P.underlying u = some .string) (hi : P.info? e = some i) (hz : i.zero = some (.int .u8 0))
    (hsize : i.size = 1) (hby : i.bytes = 1) (v : Value) (n : Nat) (xs : List Value) (hown : w.ownsRow 0 e 1 v n xs) (s : ByteArray) (h63 : n + s.size ≤ maxLen) (hbytes : n + s.size ≤ 140737488355328) :
    ∃ v' w', (Builtin.append_ #[t, u] ty #[v, .string s]).run P w = .ok v' w' ∧ w'.ownsRow 0 e 1 v' (n + s.size) (xs ++ strCells s) ∧ w.grownBy w' v.ownBlock ∧
      (v'.ownBlock = v.ownBlock ∨ ∃ g, v'.ownBlock = some g ∧ w.heap.size ≤ g) := by
  rcases hown.2 with ⟨rfl, rfl⟩ | ⟨g, cap, cur, rfl, _, hg, hnc, hcm, hcs, htake⟩
  · have hx : xs = [] := List.eq_nil_of_length_eq_zero (by simpa using hown.1)
    subst hx
    obtain ⟨v', w', hr, h2, h3, h4⟩ := run_append_own_string (P := P) w w.heap.size t u ty e i ht hu hi hz hsize hby _ _ _ (World.ownsRow_nil w w.heap.size e 1) s h63 hbytes (Nat.le_refl _)
    refine ⟨v', w', hr, ⟨h2.1, ?_⟩, h3, ?_⟩
    · rcases h2.2 with h | ⟨g, cap, cur, hv, _, hh, r⟩
      · exact .inl h
      · exact .inr ⟨g, cap, cur, hv, Nat.zero_le _, hh, r⟩
    · rcases h2.2 with ⟨rfl, _⟩ | ⟨g, cap, cur, rfl, hg, _⟩
      · exact .inl rfl
      · exact .inr ⟨g, rfl, hg⟩
  · obtain ⟨v', w', hr, h2, h3, h4⟩ := run_append_own_string (P := P) w 0 t u ty e i ht hu hi hz hsize hby _ _ _ hown s h63 hbytes (Nat.zero_le _)
    refine ⟨v', w', hr, h2, h3, ?_⟩
    by_cases hroom : n + s.size ≤ cap
    · have hcs' : cur.size = cap := by simpa using hcs
      have hr2 := run_append_room_string (P := P) w t u ty e i ht hu hi hsize g n cap cur hg s hroom (by omega)
      rw [hr] at hr2
      simp only [Result.ok.injEq] at hr2
      rw [hr2.1]
      exact .inl rfl
    · have holds : ∀ j u, xs[j]? = some u → w.cell? ((⟨g, 0, none⟩ : Addr).add j) = some u := hown.cells (g := g) rfl
      have hr2 := run_append_grow_string (P := P) w t u ty e i (.int .u8 0) ht hu hi hz ⟨g, 0, none⟩ n cap xs (by rw [hsize]; exact hown.1) holds s (by omega) (by unfold maxLen at h63; omega) (by rw [hby]; exact growslice_fits (by omega) (by omega))
      rw [hr] at hr2
      simp only [Result.ok.injEq] at hr2
      rw [hr2.1]
      exact .inr ⟨_, rfl, Nat.le_refl _⟩

theorem wpList_append_str_at {P : Program} {w : World} {ops : Array Oper} {rest : List Oper} {o : Oper} {a : Act} {Q : Exit → Act → World → Prop} (hgd : o.guard = none) (sl x : Operand) (t u : TypeId)
    (ho : o.op = .call { callee := .builtin .append, args := #[sl, x], argTypes := #[t, u] })
    (e : TypeId) (i : TypeInfo) (ht : P.underlying t = some (.slice e)) (hu : P.underlying u = some .string) (hi : P.info? e = some i) (hz : i.zero = some (.int .u8 0)) (hsize : i.size = 1) (hby : i.bytes = 1)
    (v : Value) (n : Nat) (xs : List Value) (hs : a.eval sl = v) (hown : w.ownsRow 0 e 1 v n xs) (s : ByteArray) (hx : a.eval x = .string s) (h63 : n + s.size ≤ maxLen) (hbytes : n + s.size ≤ 140737488355328)
    (h : ∀ v' w', w'.ownsRow 0 e 1 v' (n + s.size) (xs ++ strCells s) → w.grownBy w' v.ownBlock → (v'.ownBlock = v.ownBlock ∨ ∃ g, v'.ownBlock = some g ∧ w.heap.size ≤ g) → wpList P ops Q rest (a.put o.dst v') w') :
    wpList P ops Q (o :: rest) a w := by
  refine wpList_plain hgd fun K hK => ?_
  obtain ⟨v', w', hr, h2, h3, h4⟩ := run_append_string_at (P := P) w t u o.type e i ht hu hi hz hsize hby v n xs hown s h63 hbytes
  unfold Oper.wp execOp
  simp only [ho, resolve, invoke, builtin, Sem.run_bind, Sem.run_pure, Result.andThen_ok, List.map_toArray, List.map_cons, List.map_nil, hs, hx, hr]
  exact hK _ _ (h v' w' h2 h3 h4)
theorem str_bv (s : ByteArray) : strCells s = bv s.data.toList := rfl
set_option maxRecDepth 100000 in
set_option maxHeartbeats 4000000 in
theorem show_num (s : ByteArray) (l : Bs) (v : Value) (w : World) (ho : OB w v l) (hl : l.length ≤ 1099511627776) (hs : s.size ≤ 1099511627776) :
    Calls Tryd.prog 20 #[.agg #[.int .i64 3, .string s, .slice none 0 0, .slice none 0 0], v] w fun e w' => ∃ v', e = .returned v' ∧ Grew w w' v v' (l ++ s.data.toList) := by
  obtain ⟨i0, hi5, hz0, hz1, hz2⟩ := info_parts info5b
  obtain ⟨N, hN⟩ : ∃ N, l.length = N := ⟨_, rfl⟩
  have TA := (Touch.refl (fun _ => False) w).alloc (.cells #[.int .i64 3, .string s, .slice none 0 0, .slice none 0 0] 26)
  have OW := hid (show (w.alloc (.cells #[.int .i64 3, .string s, .slice none 0 0, .slice none 0 0] 26)).ownsRow 0 5 1 v N (bv l) from by
    have := ho.kept TA (fun _ _ e => e)
    unfold OB at this
    rw [hN] at this
    exact this)
  have TW := hid TA
  rw [hN] at hl
  have HN := hid hN
  clear hN ho TA
  go_enter Tryd.func20, Tryd.ntmps20
  go_wp2_with (at_builtin; (refine wpList_append_str_at rfl _ _ 53 9 rfl 5 i0 Tryd.underlying53 Tryd.underlying9 hi5 hz0 hz1 hz2 _ _ _ rfl OW.out s rfl (by unfold maxLen; omega) (by omega) ?_))
  intro v' w2 hown hgrow hat
  have G := hid (Grew.from TW.out (grew_str (l := l) (m := s.data.toList) (by rw [HN.out, size_list]; exact hown) hgrow (by rw [size_alloc1]; exact hat)))
  clear hown hgrow hat
  go_wp2
  go_ret
  exact ⟨v', rfl, G.out⟩
set_option maxRecDepth 100000 in
set_option maxHeartbeats 4000000 in
theorem Show_num (s : ByteArray) (w : World) (hs : s.size ≤ 1099511627776) :
    Calls Tryd.prog 10 #[.agg #[.int .i64 3, .string s, .slice none 0 0, .slice none 0 0]] w fun e w' => e = .returned (.string s) ∧ Touch (fun _ => False) w w' := by
  have TA := hid ((Touch.refl (fun _ => False) w).alloc (.cells #[.int .i64 3, .string s, .slice none 0 0, .slice none 0 0] 26))
  have K := hid (show_num s [] (.slice none 0 0) (w.alloc (.cells #[.int .i64 3, .string s, .slice none 0 0, .slice none 0 0] 26)) (OB.nil _) (by simp) hs)
  go_enter Tryd.func10, Tryd.ntmps10
  go_wp2_with fail
  refine K.out.mono ?_
  rintro e w1 ⟨v', rfl, g⟩
  have hconv := g.own.conv
  rw [List.nil_append, show (⟨s.data.toList.toArray⟩ : ByteArray) = s from by simp] at hconv
  have G := hid (TA.out.trans (g.touch.mono (S' := fun _ => False) (fun k _ e => by cases e)) (fun _ _ e => e))
  clear g K TA
  go_wp2
  go_ret
  exact ⟨rfl, G.out⟩
theorem scs_speak : scs ⟨#[97, 10, 1]⟩ = [97, 10, 1] := by kernel_rfl
set_option maxRecDepth 100000 in
set_option maxHeartbeats 4000000 in
theorem speaks_yes (w : World) (ht : Tabs w) : Calls Tryd.prog 8 #[] w fun e w' => e = .returned (.bool true) ∧ Touch (fun _ => False) w w' := by
  have k := quote_str ⟨#[97, 10, 1]⟩ w ht (by decide) (by
    rw [scs_speak]
    intro x hx
    simp at hx
    exact one_ascii x (by omega))
  rw [scs_speak, show (⟨(34 :: (([97, 10, 1] : List Nat).flatMap qo ++ [34])).toArray⟩ : ByteArray) = ⟨#[34, 97, 92, 110, 92, 117, 48, 48, 48, 49, 34]⟩ from by kernel_rfl] at k
  have K := hid k
  clear k ht
  go_enter Tryd.func8, Tryd.ntmps8
  go_wp2_with fail
  refine K.out.mono ?_
  rintro e w1 ⟨rfl, tt⟩
  have T := hid tt
  clear tt K
  go_wp2
  go_ret
  exact ⟨rfl, T.out⟩
end Go.Proofs.YtabhlhgfacpohaaDoor

/- What a number's text is like: plain; no condition. -/
namespace Go.Proofs.YtabhlhgfacpohaaDoor
open Go.RowKit

def dig (s : ByteArray) (i : Nat) : Prop := i < s.size ∧ 48 ≤ byN s i ∧ byN s i ≤ 57
theorem dgn_digit : ∀ (cs : Bs) (i : Nat), i < dgn cs → ∃ c, cs[i]? = some c ∧ digB c = true
  | [], i, h => by simp [dgn] at h
  | c :: cs, i, h => by
    rw [dgn] at h
    split at h
    · rename_i hc
      cases i with
      | zero => exact ⟨c, rfl, hc⟩
      | succ i => exact dgn_digit cs i (by omega)
    · omega
theorem dgE_ok {s : ByteArray} {t u : Nat} (h : dgE s t = .ok u) : t < u ∧ ∀ i, t ≤ i → i < u → dig s i := by
  unfold dgE at h
  split at h
  · cases h
  · rename_i h0
    cases h
    refine ⟨by omega, fun i h1 h2 => ?_⟩
    obtain ⟨c, hc, hd⟩ := dgn_digit (s.data.toList.drop t) (i - t) (by omega)
    rw [List.getElem?_drop, show t + (i - t) = i by omega] at hc
    have hi : i < s.size := by
      have := (List.getElem?_eq_some_iff.1 hc).1
      rw [size_list] at this
      exact this
    rw [at_opt s i hi] at hc
    cases hc
    have := (dig_iff s[i]).1 hd
    rw [by_get s i hi] at this
    exact ⟨hi, this⟩
theorem lk_is {s : ByteArray} {t c : Nat} (h : lk s t = (c : Int)) : t < s.size ∧ byN s t = c := by
  have h1 := lk_lt h
  rw [lk_by, if_pos h1] at h
  exact ⟨h1, by omega⟩
theorem part1_ok {s : ByteArray} {t a : Nat} (h : part1 s t = .ok a) : stp s t 45 < a ∧ dig s (stp s t 45) ∧ dig s (a - 1) ∧ (byN s (stp s t 45) = 48 → a = stp s t 45 + 1) := by
  unfold part1 at h
  split at h
  · rename_i e
    obtain ⟨h1, h2⟩ := lk_is (c := 48) e
    cases h
    have hd : dig s (stp s t 45) := ⟨h1, by omega, by omega⟩
    exact ⟨by omega, hd, by rw [Nat.add_sub_cancel]; exact hd, fun _ => rfl⟩
  · rename_i e
    obtain ⟨h1, h2⟩ := dgE_ok h
    refine ⟨h1, h2 _ (Nat.le_refl _) h1, h2 _ (by omega) (by omega), fun h48 => absurd ?_ e⟩
    rw [lk_by, if_pos (h2 _ (Nat.le_refl _) h1).1, h48]
    rfl
theorem part2_ok {s : ByteArray} {t a : Nat} (h : part2 s t = .ok a) : a = t ∨ (t < s.size ∧ byN s t = 46 ∧ t < a ∧ dig s (a - 1)) := by
  unfold part2 at h
  split at h
  · rename_i e
    obtain ⟨h1, h2⟩ := lk_is (c := 46) e
    obtain ⟨h3, h4⟩ := dgE_ok h
    exact .inr ⟨h1, h2, by omega, h4 _ (by omega) (by omega)⟩
  · cases h
    exact .inl rfl
theorem sgn_ge (s : ByteArray) (t : Nat) : t ≤ sgn s t := by
  unfold sgn stp
  split
  · omega
  · split <;> omega
theorem part3_ok {s : ByteArray} {t a : Nat} (h : part3 s t = .ok a) : a = t ∨ (t < s.size ∧ (byN s t = 101 ∨ byN s t = 69) ∧ t < a ∧ dig s (a - 1)) := by
  unfold part3 at h
  split at h
  · rename_i e
    obtain ⟨h1, h2⟩ := lk_is (c := 101) e
    obtain ⟨h3, h4⟩ := dgE_ok h
    have := sgn_ge s (t + 1)
    exact .inr ⟨h1, .inl h2, by omega, h4 _ (by omega) (by omega)⟩
  · split at h
    · rename_i e
      obtain ⟨h1, h2⟩ := lk_is (c := 69) e
      obtain ⟨h3, h4⟩ := dgE_ok h
      have := sgn_ge s (t + 1)
      exact .inr ⟨h1, .inr h2, by omega, h4 _ (by omega) (by omega)⟩
    · cases h
      exact .inl rfl
theorem num_law {s : ByteArray} (h : numE s 0 = .ok s.size) : dig s (stp s 0 45) ∧ dig s (s.size - 1) ∧
    (byN s (stp s 0 45) ≠ 48 ∨ stp s 0 45 + 1 = s.size ∨ (stp s 0 45 + 1 < s.size ∧ (byN s (stp s 0 45 + 1) = 46 ∨ byN s (stp s 0 45 + 1) = 101 ∨ byN s (stp s 0 45 + 1) = 69))) := by
  unfold numE at h
  cases h1 : part1 s 0 with
  | error k => rw [h1] at h; cases h
  | ok a =>
    rw [h1] at h
    simp only at h
    cases h2 : part2 s a with
    | error k => rw [h2] at h; cases h
    | ok b =>
      rw [h2] at h
      simp only at h
      obtain ⟨p1, p2, p3, p4⟩ := part1_ok h1
      have q := part2_ok h2
      have r := part3_ok h
      generalize stp s 0 45 = t at *
      refine ⟨p2, ?_, ?_⟩
      · rcases r with r | r
        · rw [r]
          rcases q with q | q
          · rw [q]; exact p3
          · exact q.2.2.2
        · exact r.2.2.2
      · by_cases h48 : byN s t = 48
        · right
          have ha := p4 h48
          subst ha
          rcases q with q | q
          · rw [q] at r
            rcases r with r | r
            · exact .inl r.symm
            · exact .inr ⟨r.1, .inr r.2.1⟩
          · exact .inr ⟨q.1, .inl q.2.1⟩
        · exact .inl h48
end Go.Proofs.YtabhlhgfacpohaaDoor

/- JsonNumbers' walk: of digits, signs, points and exponents Parse reads just numbers, and shows them as they were; condition: the two tables of coding lie there. -/
namespace Go.Proofs.YtabhlhgfacpohaaDoor
open Go.RowKit

theorem index_str (s : ByteArray) (k : Nat) (h : k < s.size) (w : World) : (Instr.index 9 (.string s) (.int .i64 (k : Nat))).run Tryd.prog w = .ok (.int .u8 (byN s k : Nat)) w := by
  have h1 : (k : Int) < (s.size : Int) := by omega
  rw [← by_get s k h]
  simp [go_sem, h1]
set_option maxRecDepth 100000 in
set_option maxHeartbeats 4000000 in
theorem numbers_bad (s : ByteArray) (m : Nat) (w : World) (ht : Tabs w) (hz : s.size ≤ 140737488355328) (hm : m < s.size) (hb : ¬ okC (byN s m)) (hg : ∀ i, i < m → okC (byN s i)) :
    Calls Tryd.prog 3 #[.string s] w fun e w' => e = .returned (.bool true) ∧ Touch (fun _ => False) w w' := by
  have KS := hid (speaks_yes w ht)
  have HT := hid ht
  clear ht
  go_enter Tryd.func3, Tryd.ntmps3
  go_wp2_with fail
  refine KS.out.mono ?_
  rintro e w1 ⟨rfl, t1⟩
  have T1 := hid t1
  have H1 := hid (HT.out.new t1)
  clear t1 KS HT
  go_wp2_with fail
  go_loopg [3] s.size (fun gk v wq => ∃ k, k + gk = s.size ∧ k ≤ m ∧ v = .int .i64 (k : Nat) ∧ w1 = wq)
  case atStart => exact ⟨0, by omega, by omega, rfl, rfl⟩
  case round =>
    obtain ⟨k, hk, hkm, rfl, rfl⟩ := hrel
    have hlt : k < s.size := by omega
    have hl : (k : Int) < (s.size : Int) := by omega
    have hix := index_str s k hlt
    by_cases hkb : k = m
    · subst hkb
      unfold okC at hb
      generalize byN s k = x at *
      have n1 : ((x : Int) != 45) = true := by simp; omega
      have n2 : ((x : Int) != 43) = true := by simp; omega
      have n3 : ((x : Int) != 46) = true := by simp; omega
      have n4 : ((x : Int) != 101) = true := by simp; omega
      have n5 : ((x : Int) != 69) = true := by simp; omega
      by_cases b1 : (x : Int) < 48
      · go_wp2
        go_ret
        exact ⟨rfl, T1.out⟩
      · have b2 : (57 : Int) < (x : Int) := by omega
        go_wp2
        go_ret
        exact ⟨rfl, T1.out⟩
    · have hok := hg k (by omega)
      generalize byN s k = x at *
      unfold okC at hok
      rcases hok with hok | hok | hok | hok | hok | hok
      · have b1 : ¬ ((x : Int) < 48) := by omega
        have b2 : ¬ ((57 : Int) < (x : Int)) := by omega
        go_wp2
        go_roundg (gk - 1)
        case measure => omega
        case rel => exact ⟨k + 1, by omega, by omega, by go_num, rfl⟩
      all_goals (
        subst hok
        go_wp2
        go_roundg (gk - 1)
        case measure => omega
        case rel => exact ⟨k + 1, by omega, by omega, by go_num, rfl⟩)
set_option maxRecDepth 100000 in
set_option maxHeartbeats 4000000 in
theorem numbers_err (s : ByteArray) (c t : Nat) (w : World) (ht : Tabs w) (hz : s.size ≤ 140737488355328) (hn : numb s) (hp : parV s = .tuple #[zV, fV c t]) (hc : c ≠ 0) :
    Calls Tryd.prog 3 #[.string s] w fun e w' => e = .returned (.bool true) ∧ Touch (fun _ => False) w w' := by
  have KS := hid (speaks_yes w ht)
  have HT := hid ht
  clear ht
  go_enter Tryd.func3, Tryd.ntmps3
  go_wp2_with fail
  refine KS.out.mono ?_
  rintro e w1 ⟨rfl, t1⟩
  have T1 := hid t1
  have H1 := hid (HT.out.new t1)
  clear t1 KS HT
  go_wp2_with fail
  have KP := hid (parse_num s w1 H1.out hn)
  rw [hp] at KP
  unfold zV fV at KP
  clear H1 hp
  go_loopg [3] s.size (fun gk v wq => ∃ k, k + gk = s.size ∧ v = .int .i64 (k : Nat) ∧ w1 = wq)
  case atStart => exact ⟨0, by omega, rfl, rfl⟩
  case round =>
    obtain ⟨k, hk, rfl, rfl⟩ := hrel
    by_cases hlt : k < s.size
    · have hl : (k : Int) < (s.size : Int) := by omega
      have hix := index_str s k hlt
      have hok := hn k hlt
      generalize byN s k = x at *
      unfold okC at hok
      rcases hok with hok | hok | hok | hok | hok | hok
      · have b1 : ¬ ((x : Int) < 48) := by omega
        have b2 : ¬ ((57 : Int) < (x : Int)) := by omega
        go_wp2
        go_roundg (gk - 1)
        case measure => omega
        case rel => exact ⟨k + 1, by omega, by go_num, rfl⟩
      all_goals (
        subst hok
        go_wp2
        go_roundg (gk - 1)
        case measure => omega
        case rel => exact ⟨k + 1, by omega, by go_num, rfl⟩)
    · have hl : ¬ (k : Int) < (s.size : Int) := by omega
      have hc0 : ((c : Int) == 0) = false := by simp; omega
      go_wp2_with fail
      refine KP.out.mono ?_
      rintro e w2 ⟨rfl, t2⟩
      have T2 := hid (T1.out.trans t2 (fun _ _ e => e))
      clear KP T1 t2
      go_wp2
      go_ret
      exact ⟨rfl, (T2.out.alloc _).alloc _⟩
end Go.Proofs.YtabhlhgfacpohaaDoor
