/- Texts of this proof, one behind the other: what each says stands ahead of it. -/
import Derived.Test.YtjpmjcadnnglnaaDoorOa
import Derived.Test.YtjpmjcadnnglnaaDoorM19
/- Show of an object of texts; conditions: the two tables lie there, and what is told of lengths. -/
namespace Go.Proofs.YtjpmjcadnnglnaaDoor
open Go.RowKit
open Go.Lib

/-- A text in quotes. -/
def quB (s : ByteArray) : Bs := 34 :: ((scs s).flatMap qo ++ [34])
theorem flat_qo (L : List Nat) : (L.flatMap qo).length ≤ 6 * L.length := by
  have := flat_le (qo := qo) (rs := L) (fun x _ => qo_len x) L.length
  rwa [List.take_of_length_le (Nat.le_refl _)] at this
theorem quB_len (s : ByteArray) : (quB s).length ≤ 6 * s.size + 2 := by
  have h1 := flat_qo (scs s)
  have h2 := scs_len s
  unfold quB
  simp only [List.length_cons, List.length_append, List.length_nil]
  omega
/-- What isn't bytes is left alone. -/
theorem other_kept {w w' : World} {v v' : Value} {l l' : Bs} (ho : OB w v l) (g : Grew w w' v v' l') {b : Nat} {cs : Array Value} {ty : TypeId} {fr : Nat × Nat} (h : w.heap[b]? = some (.cells cs ty fr)) (ht : ty ≠ 5) : w'.heap[b]? = some (.cells cs ty fr) := by
  refine (g.touch.block b (lt_of_block h) (fun e => ?_)).trans h
  rcases ho.2 with ⟨hv, _⟩ | ⟨g', cap, cur, hv, _, hh, _⟩
  · rw [hv] at e
    cases e
  · rw [hv] at e
    cases e
    rw [hh] at h
    cases h
    exact ht rfl
theorem row_other {w w' : World} {v v' x : Value} {l l' : Bs} {e : TypeId} {sz n : Nat} {xs : List Value} (ho : OB w v l) (g : Grew w w' v v' l') (h : w.ownsRow 0 e sz x n xs) (he : e ≠ 5) : w'.ownsRow 0 e sz x n xs := by
  refine ⟨h.1, ?_⟩
  rcases h.2 with h0 | ⟨g2, cap, cur, hv, hg, hh, rest⟩
  · exact .inl h0
  · exact .inr ⟨g2, cap, cur, hv, hg, other_kept ho g hh he, rest⟩
theorem SL.at {w : World} {a : Option Addr} {n c : Nat} {ks : List ByteArray} (h : SL w (.slice a n c) ks) (i : Nat) (hi : i < ks.length) : ∃ g, a = some ⟨g, 0, none⟩ ∧ w.cell? ⟨g, i, none⟩ = some (.string (ks.getD i ⟨#[]⟩)) := by
  rcases h.2 with ⟨_, h0⟩ | ⟨g, cap, cur, hv, hg, hh, rest⟩
  · omega
  · cases hv
    refine ⟨g, rfl, ?_⟩
    have h' := h
    unfold SL at h'
    rw [h'.cellAt i (by omega), List.getElem?_map, List.getElem?_eq_getElem hi, List.getD_eq_getElem?_getD, List.getElem?_eq_getElem hi]
    rfl
theorem SL.len {w : World} {a : Option Addr} {n c : Nat} {ks : List ByteArray} (h : SL w (.slice a n c) ks) : n = ks.length := by
  obtain ⟨_, _, hh⟩ := own_shape h
  cases hh
  rfl
theorem VL.len {w : World} {a : Option Addr} {n c : Nat} {ks : List ByteArray} (h : VL w (.slice a n c) ks) : n = ks.length := by
  obtain ⟨_, _, hh⟩ := own_shape h
  cases hh
  rfl
theorem kid_get (ts : List ByteArray) (i j : Nat) (hi : i < ts.length) (hj : j < 4) : (ts.flatMap kidC)[i * 4 + j]? = (kidC (ts.getD i ⟨#[]⟩))[j]? := by
  induction ts generalizing i with
  | nil => simp at hi
  | cons a l ih =>
    rw [List.flatMap_cons]
    cases i with
    | zero =>
      rw [Nat.zero_mul, Nat.zero_add, List.getElem?_append_left (by show j < 4; exact hj)]
      rfl
    | succ i =>
      rw [List.getElem?_append_right (by show 4 ≤ _; omega)]
      rw [show (i + 1) * 4 + j - (kidC a).length = i * 4 + j from by show _ - 4 = _; omega, ih i (by simpa using hi)]
      rfl
theorem VL.at {w : World} {a : Option Addr} {n c : Nat} {ts : List ByteArray} (h : VL w (.slice a n c) ts) (i : Nat) (hi : i < ts.length) : ∃ g, a = some ⟨g, 0, none⟩ ∧ w.cell? ⟨g, i * 4, none⟩ = some (.int .i64 4) ∧ w.cell? ⟨g, i * 4 + 1, none⟩ = some (.string (ts.getD i ⟨#[]⟩)) ∧ w.cell? ⟨g, i * 4 + 2, none⟩ = some (.slice none 0 0) ∧ w.cell? ⟨g, i * 4 + 3, none⟩ = some (.slice none 0 0) := by
  rcases h.2 with ⟨_, h0⟩ | ⟨g, cap, cur, hv, hg, hh, rest⟩
  · omega
  · cases hv
    have h' := h
    unfold VL at h'
    refine ⟨g, rfl, ?_, ?_, ?_, ?_⟩
    · have := kid_get ts i 0 hi (by decide)
      rw [Nat.add_zero] at this
      rw [h'.cellAt (i * 4) (by omega), this]
      rfl
    · rw [h'.cellAt (i * 4 + 1) (by omega), kid_get ts i 1 hi (by decide)]
      rfl
    · rw [h'.cellAt (i * 4 + 2) (by omega), kid_get ts i 2 hi (by decide)]
      rfl
    · rw [h'.cellAt (i * 4 + 3) (by omega), kid_get ts i 3 hi (by decide)]
      rfl
/-- What stands in an object for a pair. -/
def pcF (ks ts : List ByteArray) (i : Nat) : Bs := (if i = 0 then [] else [44]) ++ (quB (ks.getD i ⟨#[]⟩) ++ [58] ++ quB (ts.getD i ⟨#[]⟩))
def jnF (ks ts : List ByteArray) (k : Nat) : Bs := (List.range k).flatMap (pcF ks ts)
theorem jn_more (ks ts : List ByteArray) (k : Nat) : jnF ks ts (k + 1) = jnF ks ts k ++ pcF ks ts k := by
  unfold jnF
  rw [List.range_succ, List.flatMap_append]
  simp
def objB (ks ts : List ByteArray) : Bs := 123 :: (jnF ks ts ts.length ++ [125])
theorem getD_size {ks : List ByteArray} {B : Nat} (h : ∀ x ∈ ks, x.size ≤ B) (i : Nat) : (ks.getD i ⟨#[]⟩).size ≤ B := by
  rw [List.getD_eq_getElem?_getD]
  cases e : ks[i]? with
  | none => exact Nat.zero_le _
  | some x => exact h x (List.mem_of_getElem? e)
theorem jn_len {ks ts : List ByteArray} (h2 : ∀ x ∈ ks, x.size ≤ 4000) (h3 : ∀ x ∈ ts, x.size ≤ 4000) : ∀ k, (jnF ks ts k).length ≤ 50000 * k
  | 0 => by simp [jnF]
  | k + 1 => by
    have ih := jn_len h2 h3 k
    have a := quB_len (ks.getD k ⟨#[]⟩)
    have b := quB_len (ts.getD k ⟨#[]⟩)
    have a' := getD_size h2 k
    have b' := getD_size h3 k
    have c : (if k = 0 then ([] : Bs) else [44]).length ≤ 1 := by split <;> simp
    rw [jn_more, List.length_append]
    unfold pcF
    simp only [List.length_append, List.length_singleton]
    omega
end Go.Proofs.YtjpmjcadnnglnaaDoor

/- Show of an object of texts: the walks; conditions: the two tables lie there, and what is told of lengths. -/
namespace Go.Proofs.YtjpmjcadnnglnaaDoor
open Go.RowKit
open Go.Lib

/-- Bytes of the call's own, their number named. -/
theorem OB.named {w : World} {v : Value} {l : Bs} (h : OB w v l) : ∃ a c N, v = .slice a N c ∧ l.length = N ∧ w.ownsRow 0 5 1 (.slice a N c) N (bv l) := by
  obtain ⟨a, c, hv⟩ := own_shape h
  exact ⟨a, c, _, hv, rfl, by rw [← hv]; exact h⟩
/-- All that an object's Show reads. -/
structure SK (w : World) (q : Nat) (v2 v3 : Value) (ks ts : List ByteArray) : Prop where
  obj : w.heap[q]? = some (.cells #[.int .i64 6, .string ⟨#[]⟩, v2, v3] 36 (0, 0))
  keys : SL w v2 ks
  kids : VL w v3 ts
  tabs : Tabs w
theorem SK.new {w w' : World} {q : Nat} {v2 v3 : Value} {ks ts : List ByteArray} (h : SK w q v2 v3 ks ts) (tc : Touch (fun _ => False) w w') : SK w' q v2 v3 ks ts :=
  ⟨(tc.block q (lt_of_block h.obj) id).trans h.obj, rowKept h.keys tc (fun _ _ e => e), rowKept h.kids tc (fun _ _ e => e), h.tabs.new tc⟩
theorem tabs_other {w w' : World} {v v' : Value} {l' : Bs} (g : Grew w w' v v' l') (h : Tabs w) (h2 : ∀ k, v.ownBlock = some k → 2 ≤ k) : Tabs w' :=
  h.kept g.touch (fun e => by have := h2 0 e; omega) (fun e => by have := h2 1 e; omega)
theorem SK.grew {w w' : World} {q : Nat} {v2 v3 v v' : Value} {ks ts : List ByteArray} {l l' : Bs} (h : SK w q v2 v3 ks ts) (ho : OB w v l) (g : Grew w w' v v' l') (h2 : ∀ k, v.ownBlock = some k → 2 ≤ k) : SK w' q v2 v3 ks ts :=
  ⟨other_kept ho g h.obj (by decide), row_other ho g h.keys (by decide), row_other ho g h.kids (by decide), tabs_other g h.tabs h2⟩
theorem two_le {w w' : World} {v v' : Value} {l' : Bs} (g : Grew w w' v v' l') (h2 : ∀ k, v.ownBlock = some k → 2 ≤ k) (hw : 2 ≤ w.heap.size) : ∀ k, v'.ownBlock = some k → 2 ≤ k := by
  intro k e
  rcases g.pos with e2 | ⟨g2, e2, h3⟩
  · exact h2 k (by rw [← e2]; exact e)
  · rw [e2] at e
    cases e
    omega
end Go.Proofs.YtjpmjcadnnglnaaDoor

/- Show of an object of texts, whole, and clean; conditions: the two tables lie there, and what is told of lengths. -/
namespace Go.Proofs.YtjpmjcadnnglnaaDoor
open Go.RowKit
open Go.Lib

/-- A text, with what stands for what is bad. -/
def clS (s : ByteArray) : ByteArray := ⟨(UB (scs s)).toArray⟩
end Go.Proofs.YtjpmjcadnnglnaaDoor

/- A text in quotes is read wherever it stands: plain; no condition. -/
namespace Go.Proofs.YtjpmjcadnnglnaaDoor
open Go.RowKit
open Go.Lib

theorem run_endsR (R : Bs) (s : ByteArray) (t : Nat) (L : List Nat) (hs : ∀ x ∈ L, isSc x) (hl : ∀ x, L.head? = some x → lowB x = false) (h : At s t (L.flatMap qo ++ 34 :: R)) : isU s t = false := by
  unfold isU
  cases L with
  | nil =>
    rw [(at_lk h).1]
    rfl
  | cons x L =>
    have hx := hl x rfl
    rw [List.flatMap_cons, List.append_assoc] at h
    cases he : escB x with
    | some c =>
      obtain ⟨c1, _, _⟩ := esc_facts he
      rw [show qo x = [92, c] from by unfold qo; rw [he]] at h
      obtain ⟨_, h⟩ := at_lk h
      obtain ⟨l1, _⟩ := at_lk h
      rw [l1]
      have : ¬ ((c.toNat : Int) = 117) := by
        intro e
        apply c1
        apply UInt8.toNat_inj.1
        show c.toNat = 117
        omega
      rw [decide_eq_false this, Bool.and_false]
    | none =>
      have h32 : ¬ x < 32 := by
        intro e
        have := (low_iff x).2 ⟨e, he⟩
        rw [this] at hx
        cases hx
      rw [show qo x = ub x from by unfold qo; rw [he]; simp only; rw [if_neg h32]] at h
      have hr := raw_ub (hs x (by simp)) h32 he
      obtain ⟨c, m, hc⟩ := ub_pos x
      rw [hc] at h hr
      have := hr c (by simp)
      rw [(at_lk h).1, decide_eq_false (by omega)]
      rfl
theorem qd_allR (R : Bs) (s : ByteArray) : ∀ (n : Nat) (L : List Nat), L.length ≤ n → (∀ x ∈ L, isSc x) → ∀ (k t : Nat) (out : Bs), At s t (L.flatMap qo ++ 34 :: R) → (L.flatMap qo).length < k → qdF s k t out = .ok (out ++ UB L, t + (L.flatMap qo).length + 1)
  | n, [], _, _, k, t, out, ha, hk => by
    obtain ⟨k, rfl⟩ : ∃ j, k = j + 1 := ⟨k - 1, by omega⟩
    rw [qdF, (at_lk ha).1, if_pos (by decide)]
    simp [UB]
  | 0, x :: L, hn, _, _, _, _, _, _ => by
    rw [List.length_cons] at hn
    omega
  | n + 1, x :: L, hn, hs, k, t, out, ha, hk => by
    rw [List.length_cons] at hn
    have hsL : ∀ y ∈ L, isSc y := fun y hy => hs y (by simp [hy])
    have ha0 := ha
    rw [List.flatMap_cons, List.append_assoc] at ha
    have hk0 := hk
    rw [List.flatMap_cons, List.length_append] at hk
    cases he : escB x with
    | some c =>
      obtain ⟨c1, c2, c3⟩ := esc_facts he
      have hq : qo x = [92, c] := by unfold qo; rw [he]
      rw [hq] at ha hk
      obtain ⟨l0, ha⟩ := at_lk ha
      obtain ⟨l1, ha⟩ := at_lk ha
      simp only [List.length_cons, List.length_nil] at hk
      obtain ⟨k, rfl⟩ : ∃ j, k = j + 1 := ⟨k - 1, by omega⟩
      have hU : isU s t = false := by
        unfold isU
        rw [l1]
        have : ¬ ((c.toNat : Int) = 117) := by
          intro e
          apply c1
          apply UInt8.toNat_inj.1
          show c.toNat = 117
          omega
        rw [decide_eq_false this, Bool.and_false]
      have hE : escE s t = .ok ([x.toUInt8], t + 2) := by
        unfold escE
        rw [if_neg (by rw [hU]; decide), l1, c2]
      rw [qdF, l0, if_neg (by decide), if_neg (by decide), if_pos (by decide), hE]
      simp only
      rw [show t + 2 = t + 1 + 1 by omega, qd_allR R s n L (by omega) hsL k (t + 1 + 1) _ ha (by omega)]
      rw [List.flatMap_cons, hq]
      unfold UB
      rw [List.flatMap_cons, c3, List.append_assoc]
      congr 2
      simp only [List.length_append, List.length_cons, List.length_nil]
      omega
    | none =>
      by_cases h32 : x < 32
      · have hE0 : L = L.takeWhile lowB ++ L.dropWhile lowB := (List.takeWhile_append_dropWhile).symm
        obtain ⟨run, hrun⟩ : ∃ run, run = x :: L.takeWhile lowB := ⟨_, rfl⟩
        obtain ⟨rest, hrest⟩ : ∃ rest, rest = L.dropWhile lowB := ⟨_, rfl⟩
        have hxl : x :: L = run ++ rest := by rw [hrun, hrest, List.cons_append, ← hE0]
        have hlow : ∀ y ∈ run, y < 32 ∧ escB y = none := by
          intro y hy
          rw [hrun] at hy
          rcases List.mem_cons.1 hy with e | e
          · rw [e]; exact ⟨h32, he⟩
          · exact (low_iff y).1 (List.all_eq_true.1 (List.all_takeWhile) y e)
        have hsr : ∀ y ∈ rest, isSc y := fun y hy => hs y (by rw [hxl]; simp [hy])
        have hlr : rest.length ≤ n := by
          have := congrArg List.length hxl
          rw [List.length_append, List.length_cons] at this
          have : 0 < run.length := by rw [hrun]; simp
          omega
        rw [hxl, List.flatMap_append, List.append_assoc] at ha0
        have ha1 := at_app ha0
        rw [qo_low_len run hlow] at ha1
        have hU := run_endsR R s _ rest hsr (fun y hy => head_drop L y (by rw [← hrest]; exact hy)) ha1
        have hne : run.flatMap qo ++ (rest.flatMap qo ++ 34 :: R) ≠ [] := by simp
        have hsz := at_len ha0 hne
        rw [List.length_append, qo_low_len run hlow] at hsz
        have hF := us_run s run _ s.size t [] hlow ha0 hU (by omega)
        rw [List.nil_append] at hF
        obtain ⟨k, rfl⟩ : ∃ j, k = j + 1 := ⟨k - 1, by omega⟩
        have hq := qo_unit h32 he
        rw [hq] at ha
        obtain ⟨l0, ha⟩ := at_lk ha
        obtain ⟨l1, ha⟩ := at_lk ha
        have hU0 : isU s t = true := by
          unfold isU
          rw [l0, l1]
          rfl
        have hE : escE s t = .ok (UB run, t + 6 * run.length) := by
          unfold escE
          rw [if_pos hU0]
          unfold usE
          rw [hF]
          simp only
          rw [su_low run (fun y hy => by have := (hlow y hy).1; omega)]
          rfl
        rw [qdF, l0, if_neg (by decide), if_neg (by decide), if_pos (by decide), hE]
        simp only
        rw [hxl, List.flatMap_append, List.length_append, qo_low_len run hlow] at hk0
        have hr0 : 0 < run.length := by rw [hrun]; simp
        rw [qd_allR R s n rest hlr hsr k _ _ ha1 (by omega)]
        rw [hxl, List.flatMap_append, List.length_append, qo_low_len run hlow]
        unfold UB
        rw [List.flatMap_append, List.append_assoc]
        congr 2
        omega
      · have hq : qo x = ub x := by unfold qo; rw [he]; simp only; rw [if_neg h32]
        rw [hq] at ha hk
        obtain ⟨j, rfl⟩ : ∃ j, k = j + (ub x).length := ⟨k - (ub x).length, by omega⟩
        rw [qd_raw s (ub x) _ j t out (raw_ub (hs x (by simp)) h32 he) ha]
        rw [qd_allR R s n L (by omega) hsL j _ _ (at_app ha) (by omega)]
        rw [List.flatMap_cons, hq]
        unfold UB
        rw [List.flatMap_cons, List.append_assoc]
        congr 2
        rw [List.length_append]
        omega
/-- A text's scalars in quotes. -/
def quL (L : List Nat) : Bs := 34 :: (L.flatMap qo ++ [34])
theorem quot_at (s : ByteArray) (t : Nat) (L : List Nat) (R : Bs) (h : At s t (quL L ++ R)) (hs : ∀ x ∈ L, isSc x) : lk s t = 34 ∧ quotE s t = .ok (UB L, t + (quL L).length) ∧ At s (t + (quL L).length) R := by
  have h' : At s t (34 :: (L.flatMap qo ++ 34 :: R)) := by
    unfold quL at h
    simpa using h
  obtain ⟨l0, ha⟩ := at_lk h'
  have hlen : (quL L).length = (L.flatMap qo).length + 2 := by
    unfold quL
    simp
  have hz := at_len ha (by simp)
  refine ⟨l0, ?_, at_app h⟩
  unfold quotE
  rw [needE, if_pos l0, needE]
  simp only
  rw [qd_allR R s L.length L (Nat.le_refl _) hs _ _ [] ha (by simp only [List.length_append, List.length_cons] at hz; omega), List.nil_append, hlen]
  congr 2
  omega
/-- The scalars of a text that was made of scalars. -/
theorem scs_ub (L : List Nat) (h : ∀ x ∈ L, isSc x) : scs ⟨(UB L).toArray⟩ = L := by
  have hx : (xs ⟨(UB L).toArray⟩).data.toList = UB (120 :: L) := by
    rw [xs_list]
    unfold UB
    rw [List.flatMap_cons]
    simp [ub]
  have h' : ∀ x ∈ (120 :: L), isSc x := by
    intro x hx
    rcases List.mem_cons.1 hx with e | e
    · rw [e]; unfold isSc; omega
    · exact h x e
  obtain ⟨ps, hp⟩ := dec_ub _ (120 :: L) hx h' false
  have h2 := dc_sc (xs ⟨(UB L).toArray⟩) (xs ⟨(UB L).toArray⟩).size 0 [] [] 0
  rw [hp, List.nil_append, scF_x] at h2
  simp only at h2
  unfold ints at h2
  rw [List.map_cons] at h2
  have h3 := (List.cons.inj h2).2
  unfold scs
  rw [← h3, List.map_map]
  conv => rhs; rw [← List.map_id L]
  exact List.map_congr_left (fun x _ => by simp)
theorem quB_cl (s : ByteArray) : quB (clS s) = quL (scs s) := by
  unfold quB clS quL
  rw [scs_ub _ (scs_sc s)]
theorem quL_ub (L : List Nat) (h : ∀ x ∈ L, isSc x) : ∃ M, UB M = quL L ∧ ∀ x ∈ M, isSc x := by
  obtain ⟨h1, h2⟩ := flat_qsc L h
  refine ⟨34 :: (L.flatMap qsc ++ [34]), ?_, ?_⟩
  · unfold quL
    rw [← h1]
    unfold UB
    rw [List.flatMap_cons, List.flatMap_append]
    rfl
  · intro x hx
    simp only [List.mem_cons, List.mem_append, List.not_mem_nil, or_false] at hx
    rcases hx with rfl | hx | rfl
    · unfold isSc; omega
    · exact h2 x hx
    · unfold isSc; omega
end Go.Proofs.YtjpmjcadnnglnaaDoor
