/- A text in quotes is read wherever it stands: plain; no condition. -/
import Derived.Test.YtabhlhgfacpohaaDoorSc
namespace Go.Proofs.YtabhlhgfacpohaaDoor
open Go.RowKit
open Go.Lib

theorem run_endsR (R : Bs) (s : ByteArray) (t : Nat) (L : List Nat) (hs : ∀ x ∈ L, isSc x) (hl : ∀ x, L.head? = some x → lowB x = false) (h : At s t (L.flatMap qo ++ 34 :: R)) : isU s t = false := by
  unfold isU
  cases L with
  | nil =>
    rw [(at_lk h).1]
    rfl
  | cons x L =>
    have hx := hl x rfl
    rw [List.flatMap_cons, List.append_assoc] at h
    cases he : escB x with
    | some c =>
      obtain ⟨c1, _, _⟩ := esc_facts he
      rw [show qo x = [92, c] from by unfold qo; rw [he]] at h
      obtain ⟨_, h⟩ := at_lk h
      obtain ⟨l1, _⟩ := at_lk h
      rw [l1]
      have : ¬ ((c.toNat : Int) = 117) := by
        intro e
        apply c1
        apply UInt8.toNat_inj.1
        show c.toNat = 117
        omega
      rw [decide_eq_false this, Bool.and_false]
    | none =>
      have h32 : ¬ x < 32 := by
        intro e
        have := (low_iff x).2 ⟨e, he⟩
        rw [this] at hx
        cases hx
      rw [show qo x = ub x from by unfold qo; rw [he]; simp only; rw [if_neg h32]] at h
      have hr := raw_ub (hs x (by simp)) h32 he
      obtain ⟨c, m, hc⟩ := ub_pos x
      rw [hc] at h hr
      have := hr c (by simp)
      rw [(at_lk h).1, decide_eq_false (by omega)]
      rfl
theorem qd_allR (R : Bs) (s : ByteArray) : ∀ (n : Nat) (L : List Nat), L.length ≤ n → (∀ x ∈ L, isSc x) → ∀ (k t : Nat) (out : Bs), At s t (L.flatMap qo ++ 34 :: R) → (L.flatMap qo).length < k → qdF s k t out = .ok (out ++ UB L, t + (L.flatMap qo).length + 1)
  | n, [], _, _, k, t, out, ha, hk => by
    obtain ⟨k, rfl⟩ : ∃ j, k = j + 1 := ⟨k - 1, by omega⟩
    rw [qdF, (at_lk ha).1, if_pos (by decide)]
    simp [UB]
  | 0, x :: L, hn, _, _, _, _, _, _ => by
    rw [List.length_cons] at hn
    omega
  | n + 1, x :: L, hn, hs, k, t, out, ha, hk => by
    rw [List.length_cons] at hn
    have hsL : ∀ y ∈ L, isSc y := fun y hy => hs y (by simp [hy])
    have ha0 := ha
    rw [List.flatMap_cons, List.append_assoc] at ha
    have hk0 := hk
    rw [List.flatMap_cons, List.length_append] at hk
    cases he : escB x with
    | some c =>
      obtain ⟨c1, c2, c3⟩ := esc_facts he
      have hq : qo x = [92, c] := by unfold qo; rw [he]
      rw [hq] at ha hk
      obtain ⟨l0, ha⟩ := at_lk ha
      obtain ⟨l1, ha⟩ := at_lk ha
      simp only [List.length_cons, List.length_nil] at hk
      obtain ⟨k, rfl⟩ : ∃ j, k = j + 1 := ⟨k - 1, by omega⟩
      have hU : isU s t = false := by
        unfold isU
        rw [l1]
        have : ¬ ((c.toNat : Int) = 117) := by
          intro e
          apply c1
          apply UInt8.toNat_inj.1
          show c.toNat = 117
          omega
        rw [decide_eq_false this, Bool.and_false]
      have hE : escE s t = .ok ([x.toUInt8], t + 2) := by
        unfold escE
        rw [if_neg (by rw [hU]; decide), l1, c2]
      rw [qdF, l0, if_neg (by decide), if_neg (by decide), if_pos (by decide), hE]
      simp only
      rw [show t + 2 = t + 1 + 1 by omega, qd_allR R s n L (by omega) hsL k (t + 1 + 1) _ ha (by omega)]
      rw [List.flatMap_cons, hq]
      unfold UB
      rw [List.flatMap_cons, c3, List.append_assoc]
      congr 2
      simp only [List.length_append, List.length_cons, List.length_nil]
      omega
    | none =>
      by_cases h32 : x < 32
      · have hE0 : L = L.takeWhile lowB ++ L.dropWhile lowB := (List.takeWhile_append_dropWhile).symm
        obtain ⟨run, hrun⟩ : ∃ run, run = x :: L.takeWhile lowB := ⟨_, rfl⟩
        obtain ⟨rest, hrest⟩ : ∃ rest, rest = L.dropWhile lowB := ⟨_, rfl⟩
        have hxl : x :: L = run ++ rest := by rw [hrun, hrest, List.cons_append, ← hE0]
        have hlow : ∀ y ∈ run, y < 32 ∧ escB y = none := by
          intro y hy
          rw [hrun] at hy
          rcases List.mem_cons.1 hy with e | e
          · rw [e]; exact ⟨h32, he⟩
          · exact (low_iff y).1 (List.all_eq_true.1 (List.all_takeWhile) y e)
        have hsr : ∀ y ∈ rest, isSc y := fun y hy => hs y (by rw [hxl]; simp [hy])
        have hlr : rest.length ≤ n := by
          have := congrArg List.length hxl
          rw [List.length_append, List.length_cons] at this
          have : 0 < run.length := by rw [hrun]; simp
          omega
        rw [hxl, List.flatMap_append, List.append_assoc] at ha0
        have ha1 := at_app ha0
        rw [qo_low_len run hlow] at ha1
        have hU := run_endsR R s _ rest hsr (fun y hy => head_drop L y (by rw [← hrest]; exact hy)) ha1
        have hne : run.flatMap qo ++ (rest.flatMap qo ++ 34 :: R) ≠ [] := by simp
        have hsz := at_len ha0 hne
        rw [List.length_append, qo_low_len run hlow] at hsz
        have hF := us_run s run _ s.size t [] hlow ha0 hU (by omega)
        rw [List.nil_append] at hF
        obtain ⟨k, rfl⟩ : ∃ j, k = j + 1 := ⟨k - 1, by omega⟩
        have hq := qo_unit h32 he
        rw [hq] at ha
        obtain ⟨l0, ha⟩ := at_lk ha
        obtain ⟨l1, ha⟩ := at_lk ha
        have hU0 : isU s t = true := by
          unfold isU
          rw [l0, l1]
          rfl
        have hE : escE s t = .ok (UB run, t + 6 * run.length) := by
          unfold escE
          rw [if_pos hU0]
          unfold usE
          rw [hF]
          simp only
          rw [su_low run (fun y hy => by have := (hlow y hy).1; omega)]
          rfl
        rw [qdF, l0, if_neg (by decide), if_neg (by decide), if_pos (by decide), hE]
        simp only
        rw [hxl, List.flatMap_append, List.length_append, qo_low_len run hlow] at hk0
        have hr0 : 0 < run.length := by rw [hrun]; simp
        rw [qd_allR R s n rest hlr hsr k _ _ ha1 (by omega)]
        rw [hxl, List.flatMap_append, List.length_append, qo_low_len run hlow]
        unfold UB
        rw [List.flatMap_append, List.append_assoc]
        congr 2
        omega
      · have hq : qo x = ub x := by unfold qo; rw [he]; simp only; rw [if_neg h32]
        rw [hq] at ha hk
        obtain ⟨j, rfl⟩ : ∃ j, k = j + (ub x).length := ⟨k - (ub x).length, by omega⟩
        rw [qd_raw s (ub x) _ j t out (raw_ub (hs x (by simp)) h32 he) ha]
        rw [qd_allR R s n L (by omega) hsL j _ _ (at_app ha) (by omega)]
        rw [List.flatMap_cons, hq]
        unfold UB
        rw [List.flatMap_cons, List.append_assoc]
        congr 2
        rw [List.length_append]
        omega
/-- A text's scalars in quotes. -/
def quL (L : List Nat) : Bs := 34 :: (L.flatMap qo ++ [34])
theorem quot_at (s : ByteArray) (t : Nat) (L : List Nat) (R : Bs) (h : At s t (quL L ++ R)) (hs : ∀ x ∈ L, isSc x) : lk s t = 34 ∧ quotE s t = .ok (UB L, t + (quL L).length) ∧ At s (t + (quL L).length) R := by
  have h' : At s t (34 :: (L.flatMap qo ++ 34 :: R)) := by
    unfold quL at h
    simpa using h
  obtain ⟨l0, ha⟩ := at_lk h'
  have hlen : (quL L).length = (L.flatMap qo).length + 2 := by
    unfold quL
    simp
  have hz := at_len ha (by simp)
  refine ⟨l0, ?_, at_app h⟩
  unfold quotE
  rw [needE, if_pos l0, needE]
  simp only
  rw [qd_allR R s L.length L (Nat.le_refl _) hs _ _ [] ha (by simp only [List.length_append, List.length_cons] at hz; omega), List.nil_append, hlen]
  congr 2
  omega
/-- The scalars of a text that was made of scalars. -/
theorem scs_ub (L : List Nat) (h : ∀ x ∈ L, isSc x) : scs ⟨(UB L).toArray⟩ = L := by
  have hx : (xs ⟨(UB L).toArray⟩).data.toList = UB (120 :: L) := by
    rw [xs_list]
    unfold UB
    rw [List.flatMap_cons]
    simp [ub]
  have h' : ∀ x ∈ (120 :: L), isSc x := by
    intro x hx
    rcases List.mem_cons.1 hx with e | e
    · rw [e]; unfold isSc; omega
    · exact h x e
  obtain ⟨ps, hp⟩ := dec_ub _ (120 :: L) hx h' false
  have h2 := dc_sc (xs ⟨(UB L).toArray⟩) (xs ⟨(UB L).toArray⟩).size 0 [] [] 0
  rw [hp, List.nil_append, scF_x] at h2
  simp only at h2
  unfold ints at h2
  rw [List.map_cons] at h2
  have h3 := (List.cons.inj h2).2
  unfold scs
  rw [← h3, List.map_map]
  conv => rhs; rw [← List.map_id L]
  exact List.map_congr_left (fun x _ => by simp)
theorem quB_cl (s : ByteArray) : quB (clS s) = quL (scs s) := by
  unfold quB clS quL
  rw [scs_ub _ (scs_sc s)]
theorem quL_ub (L : List Nat) (h : ∀ x ∈ L, isSc x) : ∃ M, UB M = quL L ∧ ∀ x ∈ M, isSc x := by
  obtain ⟨h1, h2⟩ := flat_qsc L h
  refine ⟨34 :: (L.flatMap qsc ++ [34]), ?_, ?_⟩
  · unfold quL
    rw [← h1]
    unfold UB
    rw [List.flatMap_cons, List.flatMap_append]
    rfl
  · intro x hx
    simp only [List.mem_cons, List.mem_append, List.not_mem_nil, or_false] at hx
    rcases hx with rfl | hx | rfl
    · unfold isSc; omega
    · exact h2 x hx
    · unfold isSc; omega
end Go.Proofs.YtabhlhgfacpohaaDoor
