/- Texts of this proof, one behind the other: what each says stands ahead of it. -/
import Derived.Test.YtjpmjcadnnglnaaDoorQVt
import Derived.Test.YtjpmjcadnnglnaaDoorQSa
import Derived.Test.YtjpmjcadnnglnaaDoorQVq
import Derived.Test.YtjpmjcadnnglnaaDoorXa
/- JSON, plain: bytes of scalars, and where a text in quotes is read out of such; no condition. -/
namespace Go.Proofs.YtjpmjcadnnglnaaDoor
open Go.RowKit
open Go.Lib

/-- Bytes of scalars. -/
def Str (l : Bs) : Prop := ∃ L : List Nat, (∀ x ∈ L, isSc x) ∧ l = UB L
theorem Str.nil : Str [] := ⟨[], by simp, rfl⟩
theorem Str.app {a b : Bs} (h1 : Str a) (h2 : Str b) : Str (a ++ b) := by
  obtain ⟨L, hL, e1⟩ := h1
  obtain ⟨M, hM, e2⟩ := h2
  refine ⟨L ++ M, fun x hx => ?_, ?_⟩
  · rcases List.mem_append.1 hx with h | h
    · exact hL x h
    · exact hM x h
  · unfold UB at *
    rw [List.flatMap_append, e1, e2]
theorem Str.one (c : UInt8) (h : c.toNat < 128) : Str [c] := by
  refine ⟨[c.toNat], fun x hx => ?_, ?_⟩
  · rw [List.mem_singleton] at hx
    subst hx
    unfold isSc
    omega
  · unfold UB
    rw [List.flatMap_cons, List.flatMap_nil, ub_low _ h]
    simp
theorem Str.utf {l : Bs} (h : Str l) : Utf l := by
  obtain ⟨L, hL, e⟩ := h
  exact ⟨ints L, ints_ok L hL, by rw [ints_enc L hL, ← e]; rfl⟩
theorem Utf.str {l : Bs} (h : Utf l) : Str l := by
  obtain ⟨L, hL, e⟩ := h
  have h1 : ∀ x ∈ L, scB x = true := fun x hx => okc_sc (List.all_eq_true.1 hL x hx)
  have h2 : ∀ y ∈ L.map Int.toNat, isSc y := by
    intro y hy
    obtain ⟨x, hx, rfl⟩ := List.mem_map.1 hy
    exact (sc_is (h1 x hx)).1
  have h3 : ints (L.map Int.toNat) = L := by
    unfold ints
    rw [List.map_map]
    conv => rhs; rw [← List.map_id L]
    exact List.map_congr_left (fun x hx => (sc_is (h1 x hx)).2)
  refine ⟨_, h2, ?_⟩
  have h4 := ints_enc _ h2
  rw [h3, ← e] at h4
  unfold nums8 at h4
  exact (List.map_inj_right (fun x y hxy => UInt8.toNat_inj.1 (by omega))).1 h4
theorem ub_high {x : Nat} (hs : isSc x) (h : ¬ x < 128) : ∀ c ∈ ub x, 128 ≤ c.toNat := by
  unfold isSc at hs
  intro c hc
  unfold ub at hc
  have u : ∀ n, 128 ≤ n → n < 256 → 128 ≤ n.toUInt8.toNat := fun n h1 h2 => by
    rw [u8_is n h2]
    omega
  rw [if_neg h] at hc
  split at hc
  · simp only [List.mem_cons, List.not_mem_nil, or_false] at hc
    rcases hc with rfl | rfl
    · exact u _ (by omega) (by omega)
    · exact u _ (by omega) (by omega)
  · split at hc
    · simp only [List.mem_cons, List.not_mem_nil, or_false] at hc
      rcases hc with rfl | rfl | rfl
      · exact u _ (by omega) (by omega)
      · exact u _ (by omega) (by omega)
      · exact u _ (by omega) (by omega)
    · simp only [List.mem_cons, List.not_mem_nil, or_false] at hc
      rcases hc with rfl | rfl | rfl | rfl
      · exact u _ (by omega) (by omega)
      · exact u _ (by omega) (by omega)
      · exact u _ (by omega) (by omega)
      · exact u _ (by omega) (by omega)
/-- From this place on there are scalars. -/
def Bd (S : ByteArray) (t : Nat) : Prop := ∃ L : List Nat, (∀ x ∈ L, isSc x) ∧ At S t (UB L)
theorem at_nil {S : ByteArray} {t : Nat} (h : At S t []) : lk S t = -1 := by
  apply lk_out
  unfold At at h
  have := congrArg List.length h
  rw [List.length_drop, size_list] at this
  simp only [List.length_nil] at this
  omega
theorem UB_cons (x : Nat) (L : List Nat) : UB (x :: L) = ub x ++ UB L := by unfold UB; rw [List.flatMap_cons]
theorem Bd.step {S : ByteArray} {t : Nat} (h : Bd S t) (h0 : 0 ≤ lk S t) (h1 : lk S t < 128) : Bd S (t + 1) := by
  obtain ⟨L, hL, ha⟩ := h
  cases L with
  | nil =>
    have := at_nil ha
    omega
  | cons x L =>
    rw [UB_cons] at ha
    have hx := hL x (by simp)
    by_cases hlt : x < 128
    · rw [ub_low x hlt] at ha
      exact ⟨L, fun y hy => hL y (by simp [hy]), (at_lk ha).2⟩
    · obtain ⟨c, m, hc⟩ := ub_pos x
      have hh := ub_high hx hlt c (by rw [hc]; simp)
      rw [hc] at ha
      have := (at_lk ha).1
      omega
theorem Bd.go {S : ByteArray} : ∀ (n t : Nat), Bd S t → (∀ i, i < n → 0 ≤ lk S (t + i) ∧ lk S (t + i) < 128) → Bd S (t + n)
  | 0, t, h, _ => h
  | n + 1, t, h, hi => by
    have h0 := hi 0 (by omega)
    have := Bd.go n (t + 1) (h.step h0.1 h0.2) (fun i h' => by
      have := hi (i + 1) (by omega)
      rw [show t + 1 + i = t + (i + 1) by omega]
      exact this)
    rw [show t + (n + 1) = t + 1 + n by omega]
    exact this
theorem hex_low (x : Int) (h : ¬ hexV x < 0) : 0 ≤ x ∧ x < 128 := by
  unfold hexV at h
  split at h
  · omega
  · split at h
    · omega
    · split at h
      · omega
      · omega
theorem un_bd (S : ByteArray) : ∀ (k t n m u : Nat), unF S k t n = .ok (m, u) → Bd S t → Bd S u
  | 0, t, n, m, u, h, hb => by
    rw [unF] at h
    cases h
    exact hb
  | k + 1, t, n, m, u, h, hb => by
    rw [unF] at h
    split at h
    · cases h
    · rename_i hx
      have := hex_low _ hx
      exact un_bd S k _ _ _ _ h (hb.step this.1 this.2)
theorem us_bd (S : ByteArray) : ∀ (k t : Nat) (us0 us : List Nat) (u : Nat), usF S k t us0 = .ok (us, u) → Bd S t → Bd S u
  | 0, t, us0, us, u, h, hb => by
    rw [usF] at h
    cases h
    exact hb
  | k + 1, t, us0, us, u, h, hb => by
    rw [usF] at h
    split at h
    · rename_i hu
      have h4 := isU_iff hu
      cases hE : unitE S (t + 2) with
      | error e => rw [hE] at h; cases h
      | ok nu =>
        obtain ⟨n, v⟩ := nu
        rw [hE] at h
        simp only at h
        have b1 := hb.step (by rw [h4.1]; decide) (by rw [h4.1]; decide)
        have b2 := b1.step (by rw [h4.2.1]; decide) (by rw [h4.2.1]; decide)
        exact us_bd S k v _ us u h (un_bd S 4 (t + 2) 0 n v hE b2)
    · cases h
      exact hb
theorem scC_even (s : ByteArray) : ∀ (k i m : Nat), i + 2 * m = s.size → (scC s 3 k i).length ≤ m
  | 0, _, _, _ => by simp [scC]
  | k + 1, i, m, h => by
    rw [scC]
    split
    · rename_i hi
      have hr := tkAt_room 3 (by omega) s i hi
      have e : tkAt s 3 i = tk16 (unitB s) i := by
        unfold tkAt
        rw [if_neg (by decide), if_pos rfl]
      have hU : unitB s i ≠ -1 := by
        unfold unitB
        rw [if_neg (by omega)]
        omega
      have h2 : (tk16 (unitB s) i).2 = 2 ∨ (tk16 (unitB s) i).2 = 4 := by
        unfold tk16
        rw [if_neg hU]
        split
        · exact .inl rfl
        · split
          · exact .inl rfl
          · exact .inr rfl
      rw [← e] at h2
      rw [List.length_cons]
      rcases h2 with h2 | h2
      · rw [h2] at hr ⊢
        have := scC_even s k (i + 2) (m - 1) (by omega)
        omega
      · rw [h2] at hr ⊢
        have := scC_even s k (i + 4) (m - 2) (by omega)
        omega
    · exact Nat.zero_le _
theorem su_len2 (us : List Nat) : (su us).length ≤ us.length := by
  unfold su
  rw [List.length_map]
  exact scC_even _ _ _ _ (by rw [rowS_size])
theorem sign_low (i : Nat) : (signsB.data.toList.getD i 0).toNat < 128 := by
  have h : ∀ x ∈ signsB.data.toList, x.toNat < 128 := by decide
  rw [List.getD_eq_getElem?_getD]
  cases e : signsB.data.toList[i]? with
  | none => decide
  | some x => exact h x (List.mem_of_getElem? e)
set_option maxRecDepth 100000 in
theorem let_low : ∀ x : Nat, x < 256 → letB (x : Int) = none ∨ x < 128 := by decide
theorem esc_str {S : ByteArray} {t : Nat} {m : Bs} {u : Nat} (h92 : lk S t = 92) (hb : Bd S t) (h : escE S t = .ok (m, u)) : Str m ∧ Bd S u ∧ m.length + t ≤ u := by
  unfold escE at h
  split at h
  · unfold usE at h
    cases hE : usF S S.size t [] with
    | error e => rw [hE] at h; cases h
    | ok x =>
      obtain ⟨us, v⟩ := x
      rw [hE] at h
      simp only at h
      cases h
      have ht := (lk_is (c := 92) h92).1
      obtain ⟨h1, h2, h3⟩ := usF_ok S S.size t [] us u (by omega) hE
      have h4 := su_len2 us
      have h5 := flat_ub (su us)
      simp only [List.length_nil, Nat.mul_zero, Nat.add_zero] at h1
      exact ⟨⟨su us, su_sc us, rfl⟩, us_bd S _ t [] us u hE hb, by omega⟩
  · split at h
    · rename_i c hc
      cases h
      have hin := lk_in S (t + 1)
      have hne : lk S (t + 1) ≠ -1 := by
        intro e
        rw [e] at hc
        unfold letB at hc
        rw [if_pos rfl] at hc
        cases hc
      obtain ⟨x, hx⟩ : ∃ x : Nat, lk S (t + 1) = (x : Int) := ⟨(lk S (t + 1)).toNat, by omega⟩
      have hl : x < 128 := by
        rcases let_low x (by omega) with e | e
        · rw [← hx, hc] at e
          cases e
        · exact e
      have hcl : c.toNat < 128 := by
        unfold letB at hc
        rw [if_neg hne] at hc
        split at hc
        · cases hc
        · cases hc
          exact sign_low _
      refine ⟨Str.one c hcl, (hb.step (by rw [h92]; decide) (by rw [h92]; decide)).step (by omega) (by omega), ?_⟩
      simp only [List.length_cons, List.length_nil]
      omega
    · cases h
theorem qd_str (S : ByteArray) : ∀ (k t : Nat) (out o : Bs) (u : Nat) (m : Bs) (L : List Nat), (∀ c ∈ m, 128 ≤ c.toNat) → (∀ x ∈ L, isSc x) → At S t (m ++ UB L) → Str (out ++ m) → qdF S k t out = .ok (o, u) → Str o ∧ Bd S u ∧ o.length + 1 + t ≤ out.length + u
  | 0, t, out, o, u, m, L, _, _, _, _, h => by
    rw [qdF] at h
    cases h
  | k + 1, t, out, o, u, c :: m, L, hm, hL, ha, hs, h => by
    rw [List.cons_append] at ha
    obtain ⟨l0, ha⟩ := at_lk ha
    have hc := hm c (by simp)
    rw [qdF, l0, if_neg (by omega), if_neg (by omega), if_neg (by omega), Int.toNat_natCast, show c.toNat.toUInt8 = c from by simp] at h
    obtain ⟨h1, h2, h3⟩ := qd_str S k (t + 1) _ o u m L (fun x hx => hm x (by simp [hx])) hL ha (by rw [List.append_assoc]; exact hs) h
    refine ⟨h1, h2, ?_⟩
    rw [List.length_append, List.length_singleton] at h3
    omega
  | k + 1, t, out, o, u, [], [], hm, hL, ha, hs, h => by
    have := at_nil ha
    rw [qdF, this, if_neg (by decide), if_pos (by decide)] at h
    cases h
  | k + 1, t, out, o, u, [], x :: L, hm, hL, ha, hs, h => by
    rw [List.nil_append, UB_cons] at ha
    rw [List.append_nil] at hs
    have hx := hL x (by simp)
    have hL2 : ∀ y ∈ L, isSc y := fun y hy => hL y (by simp [hy])
    by_cases hlt : x < 128
    · have hb : Bd S t := ⟨x :: L, hL, by rw [UB_cons]; exact ha⟩
      rw [ub_low x hlt] at ha
      have l0 := (at_lk ha).1
      have ha1 := (at_lk ha).2
      rw [u8_is x (by omega)] at l0
      rw [qdF] at h
      split at h
      · cases h
        exact ⟨hs, ⟨L, hL2, ha1⟩, by omega⟩
      · split at h
        · cases h
        · split at h
          · rename_i h92
            split at h
            · cases h
            · rename_i m2 v hE
              obtain ⟨e1, ⟨L2, e2, e3⟩, e4⟩ := esc_str h92 hb hE
              obtain ⟨g1, g2, g3⟩ := qd_str S k v _ o u [] L2 (by simp) e2 e3 (by rw [List.append_nil]; exact hs.app e1) h
              refine ⟨g1, g2, ?_⟩
              rw [List.length_append] at g3
              omega
          · rw [l0, Int.toNat_natCast] at h
            obtain ⟨g1, g2, g3⟩ := qd_str S k (t + 1) _ o u [] L (by simp) hL2 ha1 (by rw [List.append_nil]; exact hs.app (Str.one _ (by rw [u8_is x (by omega)]; exact hlt))) h
            refine ⟨g1, g2, ?_⟩
            rw [List.length_append, List.length_singleton] at g3
            omega
    · have hh := ub_high hx hlt
      have hux : Str (ub x) := ⟨[x], by intro y hy; rw [List.mem_singleton] at hy; rw [hy]; exact hx, by rw [UB_cons]; unfold UB; simp⟩
      obtain ⟨c, m, hc⟩ := ub_pos x
      rw [hc] at ha hh hux
      have ha1 := ha
      rw [List.cons_append] at ha1
      obtain ⟨l0, ha2⟩ := at_lk ha1
      have hcc := hh c (by simp)
      rw [qdF, l0, if_neg (by omega), if_neg (by omega), if_neg (by omega), Int.toNat_natCast, show c.toNat.toUInt8 = c from by simp] at h
      obtain ⟨h1, h2, h3⟩ := qd_str S k (t + 1) _ o u m L (fun x hx => hh x (by simp [hx])) hL2 ha2 (by rw [List.append_assoc]; exact hs.app hux) h
      refine ⟨h1, h2, ?_⟩
      rw [List.length_append, List.length_singleton] at h3
      omega
theorem quot_str {S : ByteArray} {t u : Nat} {o : Bs} (hb : Bd S t) (h : quotE S t = .ok (o, u)) : Str o ∧ Bd S u ∧ o.length + 2 + t ≤ u := by
  unfold quotE at h
  rw [needE] at h
  split at h
  · cases h
  · rename_i v hv
    split at hv
    · rename_i h34
      rw [needE] at hv
      cases hv
      obtain ⟨L, hL, ha⟩ := hb.step (by rw [h34]; decide) (by rw [h34]; decide)
      obtain ⟨g1, g2, g3⟩ := qd_str S _ (t + 1) [] o u [] L (by simp) hL ha Str.nil h
      refine ⟨g1, g2, ?_⟩
      simp only [List.length_nil] at g3
      omega
    · cases hv
end Go.Proofs.YtjpmjcadnnglnaaDoor

/- JSON, plain: the trees that a text tells, and how long they are when shown; no condition. -/
namespace Go.Proofs.YtjpmjcadnnglnaaDoor
open Go.RowKit
open Go.Lib

/-- The text of a number. -/
def NumT (t : ByteArray) : Prop := ∃ (S : ByteArray) (q u : Nat), q ≤ S.size ∧ numE S q = .ok u ∧ t = S.extract q u
def KeyS (t : ByteArray) : Prop := Str t.data.toList ∧ t.size ≤ 1048576
/-- A tree that may be told; so many brackets may stand around one another. -/
inductive OkV : Nat → JV → Prop
  | word (n : Nat) (k : Int) : (k = 0 ∨ k = 1 ∨ k = 2) → OkV n (.node k ⟨#[]⟩ [] [])
  | num (n : Nat) (t : ByteArray) : NumT t → t.size ≤ 1048576 → OkV n (.node 3 t [] [])
  | text (n : Nat) (t : ByteArray) : KeyS t → OkV n (.node 4 t [] [])
  | row (n : Nat) (kd : Int) (l : List (ByteArray × JV)) : (kd = 5 ∨ kd = 6) → (∀ i ∈ l, KeyS i.1) → (kd = 5 → ∀ i ∈ l, i.1 = ⟨#[]⟩) → (∀ i ∈ l, OkV n i.2) → OkV (n + 1) (.node kd ⟨#[]⟩ (kyL kd l) (l.map Prod.snd))
def pcL (kd : Int) (i : ByteArray × JV) : Bs := (if kd = 6 then quB i.1 ++ [58] else []) ++ shB i.2
def jnL (kd : Int) : List (ByteArray × JV) → Bs
  | [] => []
  | i :: l => pcL kd i ++ l.flatMap (fun i => 44 :: pcL kd i)
theorem flat_range {α : Type} (f : α → Bs) : ∀ (l : List α) (g : Nat → Bs), (∀ i x, l[i]? = some x → g i = f x) → (List.range l.length).flatMap g = l.flatMap f
  | [], _, _ => rfl
  | x :: l, g, h => by
    rw [List.length_cons, List.range_succ_eq_map, List.flatMap_cons, List.flatMap_cons, h 0 x rfl, List.flatMap_map]
    congr 1
    exact flat_range f l (fun i => g (i + 1)) (fun i y hy => h (i + 1) y (by simpa using hy))
theorem pcB_at (kd : Int) (l : List (ByteArray × JV)) (i : Nat) (x : ByteArray × JV) (h : l[i]? = some x) : pcB kd (kyL kd l) (shBs (l.map Prod.snd)) i = (if i = 0 then [] else [44]) ++ pcL kd x := by
  unfold pcB pcL
  rw [shBs_at (x := x.2) (by rw [List.getElem?_map, h]; rfl)]
  by_cases hk : kd = 6
  · rw [if_pos hk, if_pos hk]
    have : (kyL kd l).getD i ⟨#[]⟩ = x.1 := by
      unfold kyL
      rw [if_pos hk, List.getD_eq_getElem?_getD, List.getElem?_map, h]
      rfl
    rw [this]
  · rw [if_neg hk, if_neg hk]
theorem jnB_is (kd : Int) (l : List (ByteArray × JV)) : jnB kd (kyL kd l) (shBs (l.map Prod.snd)) l.length = jnL kd l := by
  unfold jnB
  cases l with
  | nil => rfl
  | cons x l =>
    rw [List.length_cons, List.range_succ_eq_map, List.flatMap_cons, pcB_at kd (x :: l) 0 x rfl, if_pos rfl, List.nil_append, jnL, List.flatMap_map]
    congr 1
    refine flat_range (fun i => 44 :: pcL kd i) l _ (fun i y hy => ?_)
    rw [pcB_at kd (x :: l) (i + 1) y (by simpa using hy), if_neg (by omega)]
    rfl
theorem sh_row5 (l : List (ByteArray × JV)) : shB (.node 5 ⟨#[]⟩ (kyL 5 l) (l.map Prod.snd)) = 91 :: (jnL 5 l ++ [93]) := by
  rw [shB, nodB, if_neg (by decide), if_neg (by decide), if_neg (by decide), if_neg (by decide), if_pos rfl, shBs_len, List.length_map, jnB_is]
theorem sh_row6 (l : List (ByteArray × JV)) : shB (.node 6 ⟨#[]⟩ (kyL 6 l) (l.map Prod.snd)) = 123 :: (jnL 6 l ++ [125]) := by
  rw [shB, nodB, if_neg (by decide), if_neg (by decide), if_neg (by decide), if_neg (by decide), if_neg (by decide), if_pos rfl, shBs_len, List.length_map, jnB_is]
theorem sh_text (t : ByteArray) : shB (.node 4 t [] []) = quB t := by
  rw [shB, nodB, if_neg (by decide), if_neg (by decide), if_neg (by decide), if_pos rfl]
theorem sh_num (t : ByteArray) : shB (.node 3 t [] []) = t.data.toList := by
  rw [shB, nodB, if_neg (by decide), if_neg (by decide), if_pos rfl]
theorem sh_null : shB (.node 0 ⟨#[]⟩ [] []) = [110, 117, 108, 108] := by rw [shB]; rfl
theorem sh_false : shB (.node 1 ⟨#[]⟩ [] []) = [102, 97, 108, 115, 101] := by rw [shB]; rfl
theorem sh_true : shB (.node 2 ⟨#[]⟩ [] []) = [116, 114, 117, 101] := by rw [shB]; rfl
theorem jnL_len (kd : Int) (i : ByteArray × JV) (l : List (ByteArray × JV)) : (jnL kd (i :: l)).length = (pcL kd i).length + (l.flatMap (fun i => 44 :: pcL kd i)).length := by
  rw [jnL, List.length_append]

/-! ### What is read ends where scalars begin -/
theorem bl_bd {S : ByteArray} : ∀ (n t : Nat), S.size ≤ t + n → Bd S t → Bd S (bl S t)
  | 0, t, ht, h => by
    rw [bl_at, if_neg (by rw [lk_out (by omega)]; unfold blank; decide)]
    exact h
  | n + 1, t, ht, h => by
    rw [bl_at]
    split
    · rename_i hb
      exact bl_bd n (t + 1) (by omega) (h.step (by unfold blank at hb; omega) (by unfold blank at hb; omega))
    · exact h
theorem Bd.bl {S : ByteArray} {t : Nat} (h : Bd S t) : Bd S (Go.Proofs.YtjpmjcadnnglnaaDoor.bl S t) := bl_bd S.size t (by omega) h
theorem need_bd {S : ByteArray} : ∀ (p : Bs) (t u : Nat), (∀ c ∈ p, c.toNat < 128) → needE S p t = .ok u → Bd S t → Bd S u
  | [], t, u, _, h, hb => by
    rw [needE] at h
    cases h
    exact hb
  | c :: p, t, u, hp, h, hb => by
    rw [needE] at h
    split at h
    · rename_i hc
      have := hp c (by simp)
      exact need_bd p (t + 1) u (fun x hx => hp x (by simp [hx])) h (hb.step (by omega) (by omega))
    · cases h
theorem dgn_bd {S : ByteArray} : ∀ (n t : Nat), S.size ≤ t + n → Bd S t → Bd S (t + dgn (S.data.toList.drop t))
  | 0, t, ht, h => by
    rw [dg_at, if_neg (by rw [lk_out (by omega)]; omega)]
    exact h
  | n + 1, t, ht, h => by
    rw [dg_at]
    split
    · rename_i hd
      have := dgn_bd n (t + 1) (by omega) (h.step (by omega) (by omega))
      rw [show t + (dgn (S.data.toList.drop (t + 1)) + 1) = t + 1 + dgn (S.data.toList.drop (t + 1)) by omega]
      exact this
    · exact h
theorem dgE_bd {S : ByteArray} {t u : Nat} (h : dgE S t = .ok u) (hb : Bd S t) : Bd S u := by
  unfold dgE at h
  split at h
  · cases h
  · cases h
    exact dgn_bd S.size t (by omega) hb
theorem stp_bd {S : ByteArray} {t c : Nat} (hc : c < 128) (hb : Bd S t) : Bd S (stp S t c) := by
  unfold stp
  split
  · exact hb.step (by omega) (by omega)
  · exact hb
theorem sgn_bd {S : ByteArray} {t : Nat} (hb : Bd S t) : Bd S (sgn S t) := by
  unfold sgn
  split
  · exact hb.step (by omega) (by omega)
  · exact stp_bd (by omega) hb
theorem num_bd {S : ByteArray} {t u : Nat} (h : numE S t = .ok u) (hb : Bd S t) : Bd S u := by
  unfold numE at h
  split at h
  · cases h
  · rename_i a h1
    have g1 : Bd S a := by
      have := stp_bd (c := 45) (by omega) hb
      unfold part1 at h1
      split at h1
      · cases h1
        exact this.step (by omega) (by omega)
      · exact dgE_bd h1 this
    split at h
    · cases h
    · rename_i c h2
      have g2 : Bd S c := by
        unfold part2 at h2
        split at h2
        · exact dgE_bd h2 (g1.step (by omega) (by omega))
        · cases h2
          exact g1
      unfold part3 at h
      split at h
      · exact dgE_bd h (sgn_bd (g2.step (by omega) (by omega)))
      · split at h
        · exact dgE_bd h (sgn_bd (g2.step (by omega) (by omega)))
        · cases h
          exact g2
theorem num_pos {S : ByteArray} {t u : Nat} (h : numE S t = .ok u) : t < u := by
  have hd : ∀ x y, dgE S x = .ok y → x < y := by
    intro x y h
    unfold dgE at h
    split at h
    · cases h
    · cases h
      omega
  unfold numE at h
  split at h
  · cases h
  · rename_i a h1
    have g1 : t < a := by
      have := stp_fwd S t 45
      unfold part1 at h1
      split at h1
      · cases h1; omega
      · have := hd _ _ h1; omega
    split at h
    · cases h
    · rename_i c h2
      have g2 : a ≤ c := by
        unfold part2 at h2
        split at h2
        · have := hd _ _ h2; omega
        · cases h2; omega
      have hsg : ∀ x, x ≤ sgn S x := fun x => by unfold sgn; split; omega; exact stp_fwd S x 45
      unfold part3 at h
      split at h
      · have := hd _ _ h; have := hsg (c + 1); omega
      · split at h
        · have := hd _ _ h; have := hsg (c + 1); omega
        · cases h; omega
/-- What is asked of a way of reading. -/
def SubP (S : ByteArray) (n : Nat) (f : Nat → JR (JV × Nat)) : Prop := ∀ t x u, t ≤ S.size → Bd S t → f t = .ok (x, u) → OkV n x ∧ Bd S u ∧ t ≤ u ∧ u ≤ S.size ∧ (shB x).length + 6 * t ≤ 6 * u
def OneP (S : ByteArray) (kd : Int) (n : Nat) (f : Nat → JR (ByteArray × JV × Nat)) : Prop := ∀ t k x u, t ≤ S.size → Bd S t → f t = .ok (k, x, u) → KeyS k ∧ (kd = 5 → k = ⟨#[]⟩) ∧ OkV n x ∧ Bd S u ∧ t ≤ u ∧ u ≤ S.size ∧ (pcL kd (k, x)).length + 6 * t ≤ 6 * u
theorem key_of {o : Bs} (h : Str o) (hl : o.length ≤ 1048576) : KeyS ⟨o.toArray⟩ := by
  refine ⟨by simpa using h, ?_⟩
  show o.toArray.size ≤ _
  rw [List.size_toArray]
  exact hl
theorem one_p {S : ByteArray} (hS : S.size ≤ 1048576) {kd : Int} {n : Nat} {f : Nat → JR (JV × Nat)} (_hk : kd = 5 ∨ kd = 6) (H : SubP S n f) : OneP S kd n (oneE S kd f) := by
  intro t k x u ht hb h
  unfold oneE at h
  split at h
  · rename_i h6
    unfold keyE at h
    have h1 := bl_ge S t
    have h2 := bl_le S t ht
    split at h
    · cases h
    · rename_i o a ha
      have h3 := quot_fwd h2 ha
      obtain ⟨s1, s2, s3⟩ := quot_str hb.bl ha
      have h4 := bl_ge S a
      have h5 := bl_le S a h3.2
      split at h
      · cases h
      · rename_i c hc
        have h6' := need_ok S [58] _ c h5 hc
        have b6 := need_bd [58] _ c (by decide) hc s2.bl
        split at h
        · cases h
        · rename_i y z hz
          obtain ⟨q1, q2, q3, q4, q5⟩ := H c y z h6'.2 b6 hz
          cases h
          refine ⟨key_of s1 (by omega), by intro e; omega, q1, q2, ?_, q4, ?_⟩
          · simp only [List.length_cons, List.length_nil] at h6'
            omega
          · have hq := quB_len ⟨o.toArray⟩
            have hz2 : (⟨o.toArray⟩ : ByteArray).size = o.length := by
              show o.toArray.size = _
              rw [List.size_toArray]
            rw [hz2] at hq
            unfold pcL
            rw [if_pos h6, List.length_append, List.length_append]
            simp only [List.length_cons, List.length_nil] at h6' ⊢
            omega
  · rename_i h6
    unfold lstE at h
    split at h
    · cases h
    · rename_i y z hz
      obtain ⟨q1, q2, q3, q4, q5⟩ := H t y z ht hb hz
      cases h
      refine ⟨⟨Str.nil, Nat.zero_le _⟩, fun _ => rfl, q1, q2, q3, q4, ?_⟩
      unfold pcL
      rw [if_neg h6, List.nil_append]
      exact q5
theorem tl_p {S : ByteArray} {kd : Int} {n : Nat} {one : Nat → JR (ByteArray × JV × Nat)} (H : OneP S kd n one) : ∀ (f u : Nat) (l : List (ByteArray × JV)) (v : Nat), u ≤ S.size → Bd S u → tlF S one f u = .ok (l, v) →
    (∀ i ∈ l, KeyS i.1) ∧ (kd = 5 → ∀ i ∈ l, i.1 = ⟨#[]⟩) ∧ (∀ i ∈ l, OkV n i.2) ∧ Bd S v ∧ u ≤ v ∧ v ≤ S.size ∧ (l.flatMap (fun i => 44 :: pcL kd i)).length + 6 * u ≤ 6 * v
  | 0, u, l, v, hu, hb, h => by
    rw [tlF] at h
    cases h
    exact ⟨by simp, by simp, by simp, hb, Nat.le_refl _, hu, by simp⟩
  | f + 1, u, l, v, hu, hb, h => by
    rw [tlF] at h
    split at h
    · rename_i e
      have hlt := (lk_is (c := 44) e).1
      split at h
      · cases h
      · rename_i k x z hz
        obtain ⟨a1, a2, a3, a4, a5, a6, a7⟩ := H (u + 1) k x z (by omega) (hb.step (by rw [e]; decide) (by rw [e]; decide)) hz
        cases hr : tlF S one f z with
        | error e => rw [hr] at h; cases h
        | ok p =>
          obtain ⟨l', v'⟩ := p
          rw [hr] at h
          obtain ⟨b1, b2, b3, b4, b5, b6, b7⟩ := tl_p H f z l' v' a6 a4 hr
          cases h
          refine ⟨?_, ?_, ?_, b4, by omega, b6, ?_⟩
          · intro i hi
            rcases List.mem_cons.1 hi with rfl | hi
            · exact a1
            · exact b1 i hi
          · intro e i hi
            rcases List.mem_cons.1 hi with rfl | hi
            · exact a2 e
            · exact b2 e i hi
          · intro i hi
            rcases List.mem_cons.1 hi with rfl | hi
            · exact a3
            · exact b3 i hi
          · rw [List.singleton_append, List.flatMap_cons, List.length_append, List.length_cons]
            omega
    · cases h
      exact ⟨by simp, by simp, by simp, hb, Nat.le_refl _, hu, by simp⟩
theorem row_p {S : ByteArray} {kd : Int} {cl : Nat} {n : Nat} {one : Nat → JR (ByteArray × JV × Nat)} (H : OneP S kd n one) (hcl : cl < 128) {t u : Nat} {l : List (ByteArray × JV)} (ht : t < S.size) (hb : Bd S (t + 1)) (h : rowE S cl one t = .ok (l, u)) :
    (∀ i ∈ l, KeyS i.1) ∧ (kd = 5 → ∀ i ∈ l, i.1 = ⟨#[]⟩) ∧ (∀ i ∈ l, OkV n i.2) ∧ Bd S u ∧ t + 2 ≤ u ∧ u ≤ S.size ∧ (jnL kd l).length + 6 * (t + 2) ≤ 6 * u := by
  have h1 := bl_ge S (t + 1)
  have h2 := bl_le S (t + 1) ht
  unfold rowE at h
  split at h
  · rename_i e
    have hlt := (lk_is e).1
    cases h
    refine ⟨by simp, by simp, by simp, hb.bl.step (by omega) (by omega), by omega, by omega, ?_⟩
    rw [jnL]
    simp only [List.length_nil]
    omega
  · split at h
    · cases h
    · rename_i k x z hz
      obtain ⟨a1, a2, a3, a4, a5, a6, a7⟩ := H _ k x z h2 hb.bl hz
      obtain ⟨v, hv, e, rfl⟩ := end_fwd h
      have hlt := (lk_is e).1
      cases hr : tlF S one S.size z with
      | error e => rw [hr] at hv; cases hv
      | ok p =>
        obtain ⟨l', v'⟩ := p
        rw [hr] at hv
        obtain ⟨b1, b2, b3, b4, b5, b6, b7⟩ := tl_p H _ z l' v' a6 a4 hr
        cases hv
        refine ⟨?_, ?_, ?_, b4.step (by omega) (by omega), by omega, by omega, ?_⟩
        · intro i hi
          rcases List.mem_cons.1 hi with rfl | hi
          · exact a1
          · exact b1 i hi
        · intro e i hi
          rcases List.mem_cons.1 hi with rfl | hi
          · exact a2 e
          · exact b2 e i hi
        · intro i hi
          rcases List.mem_cons.1 hi with rfl | hi
          · exact a3
          · exact b3 i hi
        · rw [List.singleton_append, jnL_len]
          omega
theorem word_p {S : ByteArray} {p : Bs} {kd : Int} {t u : Nat} {x : JV} (hk : kd = 0 ∨ kd = 1 ∨ kd = 2) (hp : ∀ c ∈ p, c.toNat < 128) (hsh : shB (.node kd ⟨#[]⟩ [] []) = p) (n : Nat) (ht : t ≤ S.size) (hb : Bd S t) (h : wordE S p kd t = .ok (x, u)) : OkV n x ∧ Bd S u ∧ t ≤ u ∧ u ≤ S.size ∧ (shB x).length + 6 * t ≤ 6 * u := by
  unfold wordE at h
  split at h
  · cases h
  · rename_i v hv
    have h1 := need_ok S p t v ht hv
    have h2 := need_bd p t v hp hv hb
    cases h
    refine ⟨.word n kd hk, h2, by omega, by omega, ?_⟩
    rw [hsh]
    omega
theorem ext_sz (S : ByteArray) (t u : Nat) (h1 : t ≤ u) (h2 : u ≤ S.size) : (S.extract t u).size = u - t := by
  rw [ByteArray.size_extract]
  omega
theorem node_p {S : ByteArray} (hS : S.size ≤ 1048576) {kd : Int} {cl : Nat} (hk : (kd = 5 ∧ cl = 93) ∨ (kd = 6 ∧ cl = 125)) {sub : Option (Nat → JR (JV × Nat))} {n : Nat} (H : ∀ f, sub = some f → ∃ m, n = m + 1 ∧ SubP S m f) {t u : Nat} {x : JV} (ht : t < S.size) (hb : Bd S (t + 1)) (h : nodeE S kd cl sub t = .ok (x, u)) : OkV n x ∧ Bd S u ∧ t ≤ u ∧ u ≤ S.size ∧ (shB x).length + 6 * t ≤ 6 * u := by
  unfold nodeE at h
  split at h
  · cases h
  · rename_i f
    obtain ⟨m, rfl, hf⟩ := H f rfl
    have hk2 : kd = 5 ∨ kd = 6 := by rcases hk with ⟨h, _⟩ | ⟨h, _⟩; exact .inl h; exact .inr h
    split at h
    · cases h
    · rename_i l v hv
      obtain ⟨a1, a2, a3, a4, a5, a6, a7⟩ := row_p (one_p hS hk2 hf) (by omega) ht hb hv
      cases h
      refine ⟨.row m kd l hk2 a1 a2 a3, a4, by omega, a6, ?_⟩
      rcases hk with ⟨rfl, rfl⟩ | ⟨rfl, rfl⟩
      · rw [sh_row5, List.length_cons, List.length_append, List.length_singleton]
        omega
      · rw [sh_row6, List.length_cons, List.length_append, List.length_singleton]
        omega
theorem bare_p {S : ByteArray} (hS : S.size ≤ 1048576) {sub : Option (Nat → JR (JV × Nat))} {n : Nat} (H : ∀ f, sub = some f → ∃ m, n = m + 1 ∧ SubP S m f) : SubP S n (bareE S sub) := by
  intro t x u ht hb h
  unfold bareE at h
  split at h
  · exact word_p (.inl rfl) (by decide) sh_null n ht hb h
  split at h
  · exact word_p (.inr (.inl rfl)) (by decide) sh_false n ht hb h
  split at h
  · exact word_p (.inr (.inr rfl)) (by decide) sh_true n ht hb h
  split at h
  · unfold textE at h
    split at h
    · cases h
    · rename_i o v hv
      have h1 := quot_fwd ht hv
      obtain ⟨s1, s2, s3⟩ := quot_str hb hv
      cases h
      refine ⟨.text n _ (key_of s1 (by omega)), s2, h1.1, h1.2, ?_⟩
      have hq := quB_len ⟨o.toArray⟩
      have hz2 : (⟨o.toArray⟩ : ByteArray).size = o.length := by
        show o.toArray.size = _
        rw [List.size_toArray]
      rw [hz2] at hq
      rw [sh_text]
      omega
  split at h
  · rename_i e
    exact node_p hS (cl := 93) (.inl ⟨rfl, rfl⟩) H (lk_is (c := 91) e).1 (hb.step (by rw [e]; decide) (by rw [e]; decide)) h
  split at h
  · rename_i e
    exact node_p hS (cl := 125) (.inr ⟨rfl, rfl⟩) H (lk_is (c := 123) e).1 (hb.step (by rw [e]; decide) (by rw [e]; decide)) h
  · unfold numbE at h
    split at h
    · cases h
    · rename_i v hv
      have h1 := num_fwd ht hv
      have h2 := num_bd hv hb
      cases h
      have hz := ext_sz S t u h1.1 h1.2
      refine ⟨.num n _ ⟨S, t, u, ht, hv, rfl⟩ (by omega), h2, h1.1, h1.2, ?_⟩
      rw [sh_num, size_list, hz]
      omega
theorem val_p {S : ByteArray} (hS : S.size ≤ 1048576) {sub : Option (Nat → JR (JV × Nat))} {n : Nat} (H : ∀ f, sub = some f → ∃ m, n = m + 1 ∧ SubP S m f) : SubP S n (valE S sub) := by
  intro t x u ht hb h
  unfold valE at h
  split at h
  · cases h
  · rename_i y v hv
    have h1 := bl_ge S t
    have h2 := bl_le S t ht
    obtain ⟨a1, a2, a3, a4, a5⟩ := bare_p hS H _ y v h2 hb.bl hv
    have h4 := bl_ge S v
    have h5 := bl_le S v a4
    cases h
    exact ⟨a1, a2.bl, by omega, h5, by omega⟩
theorem valF_p {S : ByteArray} (hS : S.size ≤ 1048576) : ∀ n, SubP S n (valF S n)
  | 0 => fun t x u ht hb h => val_p hS (sub := none) (fun f e => by cases e) t x u ht hb (by rw [valF] at h; exact h)
  | n + 1 => fun t x u ht hb h => val_p hS (sub := some fun u => valF S n u) (fun f e => by cases e; exact ⟨n, rfl, valF_p hS n⟩) t x u ht hb (by rw [valF] at h; exact h)
/-- What Parse tells. -/
theorem par_p {S : ByteArray} {x : JV} (h : parE S = .ok x) : OkV 32 x ∧ (shB x).length ≤ 6291456 := by
  obtain ⟨h1, h2, h3⟩ := parE_ok h
  obtain ⟨L, hL, e⟩ := ((dec_utf S).1 h2).str
  unfold wholeE at h3
  cases hR : valF S 32 0 with
  | error e => rw [hR] at h3; cases h3
  | ok p =>
    obtain ⟨y, u⟩ := p
    rw [hR] at h3
    unfold endsE at h3
    simp only at h3
    split at h3
    · cases h3
      obtain ⟨a1, a2, a3, a4, a5⟩ := valF_p h1 32 0 x u (Nat.zero_le _) ⟨L, hL, e⟩ hR
      exact ⟨a1, by omega⟩
    · cases h3
end Go.Proofs.YtjpmjcadnnglnaaDoor
