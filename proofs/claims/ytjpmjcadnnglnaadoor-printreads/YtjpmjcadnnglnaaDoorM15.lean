/- Texts of this proof, one behind the other: what each says stands ahead of it. -/
import Derived.Test.YtjpmjcadnnglnaaDoorM14
import Derived.Test.YtjpmjcadnnglnaaDoorM10
/- What Quote writes is read as what was quoted: plain; no condition. -/
namespace Go.Proofs.YtjpmjcadnnglnaaDoor
open Go.RowKit
open Go.Lib

/-- These bytes stand from a place on. -/
def At (s : ByteArray) (t : Nat) (m : Bs) : Prop := s.data.toList.drop t = m
theorem at_lk {s : ByteArray} {t : Nat} {c : UInt8} {m : Bs} (h : At s t (c :: m)) : lk s t = (c.toNat : Int) ∧ At s (t + 1) m := by
  unfold At at *
  have h1 : s.data.toList[t]? = some c := by
    have := congrArg (·[0]?) h
    simpa [List.getElem?_drop] using this
  refine ⟨?_, ?_⟩
  · unfold lk
    rw [h1]
  · rw [← List.drop_drop, h]
    rfl
theorem at_app {s : ByteArray} : ∀ {a b : Bs} {t : Nat}, At s t (a ++ b) → At s (t + a.length) b
  | [], b, t, h => h
  | c :: a, b, t, h => by
    have := at_app (at_lk h).2
    rw [List.length_cons, show t + (a.length + 1) = t + 1 + a.length by omega]
    exact this
theorem at_len {s : ByteArray} {t : Nat} {m : Bs} (h : At s t m) (hm : m ≠ []) : t + m.length = s.size := by
  unfold At at h
  have := congrArg List.length h
  rw [List.length_drop, size_list] at this
  have : 0 < m.length := List.length_pos_iff.2 hm
  omega
theorem qd_raw (s : ByteArray) : ∀ (m rest : Bs) (k t : Nat) (out : Bs), (∀ c ∈ m, 32 ≤ c.toNat ∧ c.toNat ≠ 34 ∧ c.toNat ≠ 92) → At s t (m ++ rest) → qdF s (k + m.length) t out = qdF s k (t + m.length) (out ++ m)
  | [], rest, k, t, out, _, _ => by simp
  | c :: m, rest, k, t, out, h, ha => by
    obtain ⟨h1, h2⟩ := at_lk ha
    obtain ⟨a1, a2, a3⟩ := h c (by simp)
    rw [List.length_cons, ← Nat.add_assoc, qdF, h1, if_neg (by omega), if_neg (by omega), if_neg (by omega), qd_raw s m rest k (t + 1) _ (fun x hx => h x (by simp [hx])) h2]
    rw [Int.toNat_natCast, show c.toNat.toUInt8 = c from by simp, List.append_assoc, show t + 1 + m.length = t + (m.length + 1) by omega]
    rfl
set_option maxRecDepth 100000 in
theorem hex_back : ∀ y, y < 16 → hexV ((hexL.getD y 0).toNat : Int) = (y : Int) := by decide
theorem unit_low (s : ByteArray) (t x : Nat) (rest : Bs) (hx : x < 32) (h : At s t (48 :: 48 :: hexL.getD (x / 16) 0 :: hexL.getD (x % 16) 0 :: rest)) : unitE s t = .ok (x, t + 4) := by
  obtain ⟨h0, h⟩ := at_lk h
  obtain ⟨h1, h⟩ := at_lk h
  obtain ⟨h2, h⟩ := at_lk h
  obtain ⟨h3, h⟩ := at_lk h
  have e0 : hexV (lk s t) = 0 := by rw [h0]; decide
  have e1 : hexV (lk s (t + 1)) = 0 := by rw [h1]; decide
  have e2 : hexV (lk s (t + 1 + 1)) = ((x / 16 : Nat) : Int) := by rw [h2]; exact hex_back _ (by omega)
  have e3 : hexV (lk s (t + 1 + 1 + 1)) = ((x % 16 : Nat) : Int) := by rw [h3]; exact hex_back _ (by omega)
  unfold unitE
  rw [unF, e0, if_neg (by decide), unF, e1, if_neg (by decide), unF, e2, if_neg (by omega), unF, e3, if_neg (by omega), unF]
  congr 2
  simp
  omega
theorem qo_unit {x : Nat} (h1 : x < 32) (h2 : escB x = none) : qo x = [92, 117, 48, 48, hexL.getD (x / 16) 0, hexL.getD (x % 16) 0] := by
  unfold qo
  rw [h2]
  simp only
  rw [if_pos h1]
theorem us_run (s : ByteArray) : ∀ (run : List Nat) (rest : Bs) (k t : Nat) (us0 : List Nat), (∀ x ∈ run, x < 32 ∧ escB x = none) → At s t (run.flatMap qo ++ rest) → isU s (t + 6 * run.length) = false → run.length ≤ k → usF s k t us0 = .ok (us0 ++ run, t + 6 * run.length)
  | [], rest, k, t, us0, _, _, hu, _ => by
    rw [List.append_nil]
    cases k with
    | zero => rfl
    | succ k => rw [usF, if_neg (by rw [List.length_nil, Nat.mul_zero, Nat.add_zero] at hu; rw [hu]; decide)]; rfl
  | x :: run, rest, k, t, us0, hr, ha, hu, hk => by
    obtain ⟨x1, x2⟩ := hr x (by simp)
    rw [List.length_cons] at hu hk
    obtain ⟨k, rfl⟩ : ∃ j, k = j + 1 := ⟨k - 1, by omega⟩
    rw [List.flatMap_cons, qo_unit x1 x2] at ha
    obtain ⟨l0, ha⟩ := at_lk ha
    obtain ⟨l1, ha⟩ := at_lk ha
    have hE := unit_low s (t + 1 + 1) x (run.flatMap qo ++ rest) x1 ha
    have hU : isU s t = true := by
      unfold isU
      rw [l0, l1]
      rfl
    have ha2 := at_app (a := [48, 48, hexL.getD (x / 16) 0, hexL.getD (x % 16) 0]) ha
    rw [usF, if_pos hU, show t + 2 = t + 1 + 1 by omega, hE]
    simp only
    have ih := us_run s run rest k (t + 1 + 1 + 4) (us0 ++ [x]) (fun y hy => hr y (by simp [hy])) ha2 (by rw [show t + 1 + 1 + 4 + 6 * run.length = t + 6 * (run.length + 1) by omega]; exact hu) (by omega)
    rw [ih, List.append_assoc, List.length_cons, show t + 1 + 1 + 4 + 6 * run.length = t + 6 * (run.length + 1) by omega]
    rfl
theorem enc3_is (x : Nat) (hx : x < 55296) : enc 3 (x : Int) = ([(x / 256).toUInt8, (x % 256).toUInt8] : Bs).map fun b => (b.toNat : Int) := by
  rw [enc3]
  unfold en16 enU
  rw [if_pos (by omega), if_neg (by decide)]
  simp
  omega
theorem row_enc : ∀ us : List Nat, (∀ x ∈ us, x < 55296) → (ints us).flatMap (enc 3) = (us.flatMap (fun n => [(n / 256).toUInt8, (n % 256).toUInt8])).map fun b => (b.toNat : Int)
  | [], _ => rfl
  | x :: us, h => by
    have ih := row_enc us (fun y hy => h y (by simp [hy]))
    have hx := h x (by simp)
    unfold ints at *
    rw [List.map_cons, List.flatMap_cons, List.flatMap_cons, List.map_append, ih, enc3_is x hx]
theorem su_low (us : List Nat) (h : ∀ x ∈ us, x < 55296) : su us = us := by
  have h' : ∀ x ∈ (120 :: us), x < 55296 := by
    intro x hx
    rcases List.mem_cons.1 hx with e | e
    · omega
    · exact h x e
  have e1 : (rowS us).data.toList = (120 :: us).flatMap (fun n => [(n / 256).toUInt8, (n % 256).toUInt8]) := by
    unfold rowS rowB
    simp
  have hl := lays_self _ _ e1
  rw [← row_enc _ h'] at hl
  have hz : (rowS us).size = 0 + ((ints (120 :: us)).flatMap (enc 3)).length := by
    rw [row_enc _ h', List.length_map, ← e1, size_list, Nat.zero_add]
  have hok : (ints (120 :: us)).all (okc 3) = true := by
    rw [List.all_eq_true]
    intro y hy
    unfold ints at hy
    obtain ⟨x, hx, rfl⟩ := List.mem_map.1 hy
    have := h' x hx
    unfold okc
    rw [show scB (x : Int) = true from (scB_iff _).2 (by omega)]
    rfl
  obtain ⟨ps, hp⟩ := dc_fwd 3 (by omega) (rowS us) false (ints (120 :: us)) (rowS us).size 0 [] [] 0 hok hl hz (by omega)
  have h2 := dc_scC (rowS us) 3 (rowS us).size 0 [] [] 0
  rw [hp, List.nil_append, List.nil_append, row_first] at h2
  simp only at h2
  unfold ints at h2
  rw [List.map_cons] at h2
  have h3 := (List.cons.inj h2).2
  unfold su
  rw [← h3, List.map_map]
  conv => rhs; rw [← List.map_id us]
  exact List.map_congr_left (fun x _ => by simp)
def escOk (x : Nat) : Bool := match escB x with
  | some c => decide (c ≠ 117) && decide (letB (c.toNat : Int) = some x.toUInt8)
  | none => decide (x < 32) || decide (x = 34) || decide (x = 92) || true
set_option maxRecDepth 100000 in
theorem esc_all : ∀ x, x < 128 → escOk x = true := by decide
theorem esc_lt {x : Nat} {c : UInt8} (h : escB x = some c) : x < 128 := by
  by_cases hx : x < 128
  · exact hx
  · unfold escB at h
    rw [if_neg (by omega), if_neg (by omega), if_neg (by omega), if_neg (by omega), if_neg (by omega), if_neg (by omega), if_neg (by omega)] at h
    cases h
theorem esc_facts {x : Nat} {c : UInt8} (h : escB x = some c) : c ≠ 117 ∧ letB (c.toNat : Int) = some x.toUInt8 ∧ ub x = [x.toUInt8] := by
  have h1 := esc_all x (esc_lt h)
  unfold escOk at h1
  rw [h] at h1
  simp only [Bool.and_eq_true, decide_eq_true_eq] at h1
  exact ⟨h1.1, h1.2, ub_low x (esc_lt h)⟩
theorem raw_ub {x : Nat} (hs : isSc x) (h32 : ¬ x < 32) (he : escB x = none) : ∀ c ∈ ub x, 32 ≤ c.toNat ∧ c.toNat ≠ 34 ∧ c.toNat ≠ 92 := by
  unfold isSc at hs
  have n1 : x ≠ 34 := by intro e; subst e; cases he
  have n2 : x ≠ 92 := by intro e; subst e; cases he
  intro c hc
  unfold ub at hc
  split at hc
  · rw [List.mem_singleton] at hc
    subst hc
    have : x.toUInt8.toNat = x := u8_is x (by omega)
    omega
  · have u : ∀ n, 128 ≤ n → n < 256 → 32 ≤ n.toUInt8.toNat ∧ n.toUInt8.toNat ≠ 34 ∧ n.toUInt8.toNat ≠ 92 := fun n h1 h2 => by
      rw [u8_is n h2]
      omega
    split at hc
    · simp only [List.mem_cons, List.not_mem_nil, or_false] at hc
      rcases hc with rfl | rfl
      · exact u _ (by omega) (by omega)
      · exact u _ (by omega) (by omega)
    · split at hc
      · simp only [List.mem_cons, List.not_mem_nil, or_false] at hc
        rcases hc with rfl | rfl | rfl
        · exact u _ (by omega) (by omega)
        · exact u _ (by omega) (by omega)
        · exact u _ (by omega) (by omega)
      · simp only [List.mem_cons, List.not_mem_nil, or_false] at hc
        rcases hc with rfl | rfl | rfl | rfl
        · exact u _ (by omega) (by omega)
        · exact u _ (by omega) (by omega)
        · exact u _ (by omega) (by omega)
        · exact u _ (by omega) (by omega)
def lowB (x : Nat) : Bool := decide (x < 32) && decide (escB x = none)
theorem low_iff (x : Nat) : lowB x = true ↔ (x < 32 ∧ escB x = none) := by
  unfold lowB
  rw [Bool.and_eq_true, decide_eq_true_eq, decide_eq_true_eq]
theorem ub_pos (x : Nat) : ∃ c m, ub x = c :: m := by
  unfold ub
  split
  · exact ⟨_, _, rfl⟩
  · split
    · exact ⟨_, _, rfl⟩
    · split
      · exact ⟨_, _, rfl⟩
      · exact ⟨_, _, rfl⟩
/-- No unit begins behind a run of them. -/
theorem run_ends (s : ByteArray) (t : Nat) (L : List Nat) (hs : ∀ x ∈ L, isSc x) (hl : ∀ x, L.head? = some x → lowB x = false) (h : At s t (L.flatMap qo ++ [34])) : isU s t = false := by
  unfold isU
  cases L with
  | nil =>
    rw [(at_lk h).1]
    rfl
  | cons x L =>
    have hx := hl x rfl
    rw [List.flatMap_cons, List.append_assoc] at h
    cases he : escB x with
    | some c =>
      obtain ⟨c1, _, _⟩ := esc_facts he
      rw [show qo x = [92, c] from by unfold qo; rw [he]] at h
      obtain ⟨_, h⟩ := at_lk h
      obtain ⟨l1, _⟩ := at_lk h
      rw [l1]
      have : ¬ ((c.toNat : Int) = 117) := by
        intro e
        apply c1
        apply UInt8.toNat_inj.1
        show c.toNat = 117
        omega
      rw [decide_eq_false this, Bool.and_false]
    | none =>
      have h32 : ¬ x < 32 := by
        intro e
        have := (low_iff x).2 ⟨e, he⟩
        rw [this] at hx
        cases hx
      rw [show qo x = ub x from by unfold qo; rw [he]; simp only; rw [if_neg h32]] at h
      have hr := raw_ub (hs x (by simp)) h32 he
      obtain ⟨c, m, hc⟩ := ub_pos x
      rw [hc] at h hr
      have := hr c (by simp)
      rw [(at_lk h).1, decide_eq_false (by omega)]
      rfl
theorem qo_low_len : ∀ run : List Nat, (∀ x ∈ run, x < 32 ∧ escB x = none) → (run.flatMap qo).length = 6 * run.length
  | [], _ => rfl
  | x :: run, h => by
    obtain ⟨h1, h2⟩ := h x (by simp)
    rw [List.flatMap_cons, List.length_append, qo_low_len run (fun y hy => h y (by simp [hy])), qo_unit h1 h2, List.length_cons]
    simp only [List.length_cons, List.length_nil]
    omega
theorem head_drop : ∀ (L : List Nat) (x : Nat), (L.dropWhile lowB).head? = some x → lowB x = false
  | [], x, h => by cases h
  | y :: L, x, h => by
    rw [List.dropWhile_cons] at h
    split at h
    · exact head_drop L x h
    · rename_i hy
      cases h
      simpa using hy
theorem qd_all (s : ByteArray) : ∀ (n : Nat) (L : List Nat), L.length ≤ n → (∀ x ∈ L, isSc x) → ∀ (k t : Nat) (out : Bs), At s t (L.flatMap qo ++ [34]) → (L.flatMap qo).length < k → qdF s k t out = .ok (out ++ UB L, t + (L.flatMap qo).length + 1)
  | n, [], _, _, k, t, out, ha, hk => by
    obtain ⟨k, rfl⟩ : ∃ j, k = j + 1 := ⟨k - 1, by omega⟩
    rw [qdF, (at_lk ha).1, if_pos (by decide)]
    simp [UB]
  | 0, x :: L, hn, _, _, _, _, _, _ => by
    rw [List.length_cons] at hn
    omega
  | n + 1, x :: L, hn, hs, k, t, out, ha, hk => by
    rw [List.length_cons] at hn
    have hsL : ∀ y ∈ L, isSc y := fun y hy => hs y (by simp [hy])
    have ha0 := ha
    rw [List.flatMap_cons, List.append_assoc] at ha
    have hk0 := hk
    rw [List.flatMap_cons, List.length_append] at hk
    cases he : escB x with
    | some c =>
      obtain ⟨c1, c2, c3⟩ := esc_facts he
      have hq : qo x = [92, c] := by unfold qo; rw [he]
      rw [hq] at ha hk
      obtain ⟨l0, ha⟩ := at_lk ha
      obtain ⟨l1, ha⟩ := at_lk ha
      simp only [List.length_cons, List.length_nil] at hk
      obtain ⟨k, rfl⟩ : ∃ j, k = j + 1 := ⟨k - 1, by omega⟩
      have hU : isU s t = false := by
        unfold isU
        rw [l1]
        have : ¬ ((c.toNat : Int) = 117) := by
          intro e
          apply c1
          apply UInt8.toNat_inj.1
          show c.toNat = 117
          omega
        rw [decide_eq_false this, Bool.and_false]
      have hE : escE s t = .ok ([x.toUInt8], t + 2) := by
        unfold escE
        rw [if_neg (by rw [hU]; decide), l1, c2]
      rw [qdF, l0, if_neg (by decide), if_neg (by decide), if_pos (by decide), hE]
      simp only
      rw [show t + 2 = t + 1 + 1 by omega, qd_all s n L (by omega) hsL k (t + 1 + 1) _ ha (by omega)]
      rw [List.flatMap_cons, hq]
      unfold UB
      rw [List.flatMap_cons, c3, List.append_assoc]
      congr 2
      simp only [List.length_append, List.length_cons, List.length_nil]
      omega
    | none =>
      by_cases h32 : x < 32
      · have hE0 : L = L.takeWhile lowB ++ L.dropWhile lowB := (List.takeWhile_append_dropWhile).symm
        obtain ⟨run, hrun⟩ : ∃ run, run = x :: L.takeWhile lowB := ⟨_, rfl⟩
        obtain ⟨rest, hrest⟩ : ∃ rest, rest = L.dropWhile lowB := ⟨_, rfl⟩
        have hxl : x :: L = run ++ rest := by rw [hrun, hrest, List.cons_append, ← hE0]
        have hlow : ∀ y ∈ run, y < 32 ∧ escB y = none := by
          intro y hy
          rw [hrun] at hy
          rcases List.mem_cons.1 hy with e | e
          · rw [e]; exact ⟨h32, he⟩
          · exact (low_iff y).1 (List.all_eq_true.1 (List.all_takeWhile) y e)
        have hsr : ∀ y ∈ rest, isSc y := fun y hy => hs y (by rw [hxl]; simp [hy])
        have hlr : rest.length ≤ n := by
          have := congrArg List.length hxl
          rw [List.length_append, List.length_cons] at this
          have : 0 < run.length := by rw [hrun]; simp
          omega
        rw [hxl, List.flatMap_append, List.append_assoc] at ha0
        have ha1 := at_app ha0
        rw [qo_low_len run hlow] at ha1
        have hU := run_ends s _ rest hsr (fun y hy => head_drop L y (by rw [← hrest]; exact hy)) ha1
        have hne : run.flatMap qo ++ (rest.flatMap qo ++ [34]) ≠ [] := by simp
        have hsz := at_len ha0 hne
        rw [List.length_append, qo_low_len run hlow] at hsz
        have hF := us_run s run _ s.size t [] hlow ha0 hU (by omega)
        rw [List.nil_append] at hF
        obtain ⟨k, rfl⟩ : ∃ j, k = j + 1 := ⟨k - 1, by omega⟩
        have hq := qo_unit h32 he
        rw [hq] at ha
        obtain ⟨l0, ha⟩ := at_lk ha
        obtain ⟨l1, ha⟩ := at_lk ha
        have hU0 : isU s t = true := by
          unfold isU
          rw [l0, l1]
          rfl
        have hE : escE s t = .ok (UB run, t + 6 * run.length) := by
          unfold escE
          rw [if_pos hU0]
          unfold usE
          rw [hF]
          simp only
          rw [su_low run (fun y hy => by have := (hlow y hy).1; omega)]
          rfl
        rw [qdF, l0, if_neg (by decide), if_neg (by decide), if_pos (by decide), hE]
        simp only
        rw [hxl, List.flatMap_append, List.length_append, qo_low_len run hlow] at hk0
        have hr0 : 0 < run.length := by rw [hrun]; simp
        rw [qd_all s n rest hlr hsr k _ _ ha1 (by omega)]
        rw [hxl, List.flatMap_append, List.length_append, qo_low_len run hlow]
        unfold UB
        rw [List.flatMap_append, List.append_assoc]
        congr 2
        omega
      · have hq : qo x = ub x := by unfold qo; rw [he]; simp only; rw [if_neg h32]
        rw [hq] at ha hk
        obtain ⟨j, rfl⟩ : ∃ j, k = j + (ub x).length := ⟨k - (ub x).length, by omega⟩
        rw [qd_raw s (ub x) _ j t out (raw_ub (hs x (by simp)) h32 he) ha]
        rw [qd_all s n L (by omega) hsL j _ _ (at_app ha) (by omega)]
        rw [List.flatMap_cons, hq]
        unfold UB
        rw [List.flatMap_cons, List.append_assoc]
        congr 2
        rw [List.length_append]
        omega
/-- What Quote writes is read whole, as the scalars' bytes. -/
theorem qu_back (L : List Nat) (h : ∀ x ∈ L, isSc x) : lk (quS L) 0 = 34 ∧ quotE (quS L) 0 = .ok (UB L, (quS L).size) := by
  have ha : At (quS L) 0 (34 :: (L.flatMap qo ++ [34])) := by
    unfold At
    rw [List.drop_zero, qu_list]
  obtain ⟨l0, ha⟩ := at_lk ha
  refine ⟨l0, ?_⟩
  unfold quotE
  rw [needE, if_pos l0, needE]
  simp only
  rw [qd_all (quS L) L.length L (Nat.le_refl _) h _ _ [] ha (by rw [qu_size]; omega), qu_size, List.nil_append]
  congr 2
  omega
end Go.Proofs.YtjpmjcadnnglnaaDoor

/- The document's unit and utf8; conditions: those told. -/
namespace Go.Proofs.YtjpmjcadnnglnaaDoor
open Go.RowKit

theorem unit_val (x y : Nat) (hx : x < 256) (hy : y < 256) : wrap64 (wrap64 (x : Int) + wrap64 (256 * wrap64 (y : Int))) = ((x + 256 * y : Nat) : Int) := by
  rw [IntWalk.wrap64_in (x : Int) (by omega), IntWalk.wrap64_in (y : Int) (by omega), IntWalk.wrap64_in (256 * (y : Int)) (by omega), IntWalk.wrap64_in _ (by omega)]
  omega
set_option maxRecDepth 100000 in
theorem docUnit_two (s : ByteArray) (i : Nat) (w : World) (hi : i + 1 < s.size) (hs : s.size ≤ 1099511627776) : Calls Tryd.prog 47 #[.string s, .int .i64 i, .int .i64 2] w fun e w' => e = .returned (.int .i64 ((byN s i + 256 * byN s (i + 1) : Nat) : Int)) ∧ Touch (fun _ => False) w w' := by
  obtain ⟨j, hj⟩ : ∃ j, j = i + 1 := ⟨_, rfl⟩
  rw [← hj] at hi ⊢
  have z1 : IntKind.i64.wrap ((i : Int) + 1) = (j : Int) := by rw [IntKind.wrap_i64]; omega
  have q1 : (i : Int) < (s.size : Int) := by omega
  have q2 : (j : Int) < (s.size : Int) := by omega
  have q3 : i < s.size := by omega
  have HB1 := hid (by_get s i q3)
  have HB2 := hid (by_get s j hi)
  have HV := hid (unit_val (byN s i) (byN s j) (by_lt s i) (by_lt s j))
  clear hj
  go_enter Tryd.func47, Tryd.ntmps47
  go_wp2_with fail
  go_quiet (fail)
  go_wp2
  go_ret
  exact ⟨by rw [HB1.out, HB2.out, HV.out]; rfl, (Touch.refl _ w).drewN _⟩
set_option maxRecDepth 100000 in
theorem docUnit_three (s : ByteArray) (i : Nat) (w : World) (hi : i + 1 < s.size) (hs : s.size ≤ 1099511627776) : Calls Tryd.prog 47 #[.string s, .int .i64 i, .int .i64 3] w fun e w' => e = .returned (.int .i64 ((byN s (i + 1) + 256 * byN s i : Nat) : Int)) ∧ Touch (fun _ => False) w w' := by
  obtain ⟨j, hj⟩ : ∃ j, j = i + 1 := ⟨_, rfl⟩
  rw [← hj] at hi ⊢
  have z1 : IntKind.i64.wrap ((i : Int) + 1) = (j : Int) := by rw [IntKind.wrap_i64]; omega
  have q1 : (i : Int) < (s.size : Int) := by omega
  have q2 : (j : Int) < (s.size : Int) := by omega
  have q3 : i < s.size := by omega
  have HB1 := hid (by_get s i q3)
  have HB2 := hid (by_get s j hi)
  have HV := hid (unit_val (byN s j) (byN s i) (by_lt s j) (by_lt s i))
  clear hj
  go_enter Tryd.func47, Tryd.ntmps47
  go_wp2_with fail
  go_quiet (fail)
  go_wp2
  go_ret
  exact ⟨by rw [HB1.out, HB2.out, HV.out]; rfl, (Touch.refl _ w).drewN _⟩

set_option maxRecDepth 100000 in
set_option maxHeartbeats 8000000 in
theorem docUtf8_any (s : ByteArray) (a : Nat) (w : World) (ha : a < s.size) (hs : s.size ≤ 1099511627776) : Calls Tryd.prog 46 #[.string s, .int .i64 a] w fun e w' => e = .returned (.tuple #[.int .i64 (dk8 s a).1, .int .i64 ((dk8 s a).2 : Nat)]) ∧ w = w' := by
  have haI : (a : Int) < (s.size : Int) := by omega
  have hb := by_get s a ha
  have hbl := by_lt s a
  have HB := hid hb
  have hw : wrap64 ((s[a].toNat : Nat) : Int) = (byN s a : Nat) := by rw [hb, IntWalk.wrap64_in _ (by omega)]
  obtain ⟨R, hR⟩ : ∃ R, dk8 s a = R := ⟨_, rfl⟩
  have HR := hid hR
  unfold dk8 at HR
  rw [hR]
  clear hR hb
  go_enter Tryd.func46, Tryd.ntmps46
  go_upto_region 1 with fail
  go_cut [6] (fun v wd => v = .int .i64 (byN s a : Nat) ∧ w = wd)
  case first =>
    go_wp2
    go_meet
    case rel => exact ⟨by rw [hw], rfl⟩
  obtain ⟨rfl, rfl⟩ := hcut
  clear hw HB
  generalize byN s a = b at *
  by_cases h1 : b < 128
  · have HE := hid (show ((b : Int), 1) = R by rw [← HR.out, if_pos h1])
    have h1I : (b : Int) < 128 := by omega
    go_wp2
    go_ret2
    exact ⟨by rw [← HE.out]; rfl, rfl⟩
  have h1I : ¬ ((b : Int) < 128) := by omega
  rw [if_neg h1] at HR
  by_cases h2 : 194 ≤ b ∧ b ≤ 223
  · have HL := hid (show dkLead b = (1, b - 192) by unfold dkLead; rw [if_pos h2])
    rw [HL.out] at HR
    have HE := hid (show dkGo s a 1 1 1 (b - 192) = R from HR.out)
    obtain ⟨h5, h6⟩ := h2
    have h5I : (194 : Int) ≤ (b : Int) := by omega
    have h6I : (b : Int) ≤ 223 := by omega
    have hvb : b - 192 < 32 := by omega
    clear HR HL
    go_wp2_with fail
    go_loopg [8, 9] 1 (fun gk v8 v9 wq => ∃ k v : Nat, k + gk = 1 + 1 ∧ 1 ≤ k ∧ v8 = .int .i64 (v : Nat) ∧ v9 = .int .i64 (k : Nat) ∧ ((k = 1 → v < 32) ∧ (k = 2 → v < 2048) ∧ (k = 3 → v < 131072)) ∧ dkGo s a 1 gk k v = R ∧ w = wq)
    case atStart => exact ⟨1, b - 192, by omega, Nat.le_refl _, by congr 1; omega, rfl, ⟨fun _ => hvb, by omega, by omega⟩, HE.out, rfl⟩
    case round =>
      obtain ⟨k, v, hk, hk1, rfl, rfl, hvk, hdk, rfl⟩ := hrel
      have HK := hid hdk
      clear hdk HE
      by_cases hle : k ≤ 1
      · obtain ⟨gk, rfl⟩ : ∃ f, gk = f + 1 := ⟨gk - 1, by omega⟩
        have HS := hid HK.out
        unfold dkGo at HS
        have hleI : (k : Int) ≤ 1 := by omega
        clear HK
        by_cases hend : s.size ≤ a + k
        · have HE := hid (show (-1, k) = R by rw [← HS.out, if_pos hend])
          have hendI : (s.size : Int) ≤ (a : Int) + (k : Int) := by omega
          go_wp2
          go_ret2
          exact ⟨by rw [← HE.out]; rfl, rfl⟩
        rw [if_neg hend] at HS
        have hendI : (a : Int) + (k : Int) < (s.size : Int) := by omega
        have HB := hid (by_get s (a + k) (by omega))
        have hyl := by_lt s (a + k)
        have HGK := hid hk
        go_upto_region 19 with fail
        go_cut [10] (fun v wd => v = .int .i64 (byN s (a + k) : Nat) ∧ w = wd)
        case first =>
          go_wp2
          go_meet
          case rel => exact ⟨by rw [HB.out, IntWalk.wrap64_in _ (by omega)], rfl⟩
        obtain ⟨rfl, rfl⟩ := hcut
        clear HB hend hendI
        generalize byN s (a + k) = y at *
        by_cases hy1 : y < 128
        · have HE := hid (show (-1, k) = R by rw [← HS.out, if_pos (.inl hy1)])
          have hyI : (y : Int) < 128 := by omega
          go_wp2
          go_ret2
          exact ⟨by rw [← HE.out]; rfl, rfl⟩
        by_cases hy2 : 191 < y
        · have HE := hid (show (-1, k) = R by rw [← HS.out, if_pos (.inr hy2)])
          have hyI : ¬ ((y : Int) < 128) := by omega
          have hyJ : 191 < (y : Int) := by omega
          go_wp2
          go_ret2
          exact ⟨by rw [← HE.out]; rfl, rfl⟩
        rw [if_neg (by omega)] at HS
        have hyI : ¬ ((y : Int) < 128) := by omega
        have hyJ : ¬ (191 < (y : Int)) := by omega
        obtain ⟨u, hu⟩ : ∃ u, u = 64 * v + y - 128 := ⟨_, rfl⟩
        rw [← hu] at HS
        have hub : (k = 1 → u < 2048) ∧ (k = 2 → u < 131072) ∧ u < 8388608 := by omega
        go_upto_region 22 with fail
        go_cut [8] (fun v wd => v = .int .i64 (u : Nat) ∧ w = wd)
        case first =>
          go_wp2
          go_meet
          case rel => exact ⟨by congr 1; omega, rfl⟩
        obtain ⟨rfl, rfl⟩ := hcut
        clear hu hyI hyJ hyl hy1 hy2 hvk
        by_cases hk2 : k = 1
        · subst hk2
          have hu2 : u < 2048 := hub.1 rfl
          clear hub
          obtain rfl : gk = 0 := by have := HGK.out; omega
          go_wp2_with fail
          go_loopg [11, 12, 13] 0 (fun g2 v11 v12 v13 wq => ∃ i : Nat, i + g2 = 1 ∧ 1 ≤ i ∧ v13 = .int .i64 (i : Nat) ∧ ((i = 1 ∧ v11 = .int .i64 (u : Nat) ∧ v12 = .int .i64 (u : Nat)) ∨ (i = 2 ∧ v11 = .int .i64 ((64 * u : Nat) : Int) ∧ v12 = .int .i64 ((64 * u + 63 : Nat) : Int)) ∨ (i = 3 ∧ v11 = .int .i64 ((4096 * u : Nat) : Int) ∧ v12 = .int .i64 ((4096 * u + 4095 : Nat) : Int))) ∧ w = wq)
          case atStart => exact ⟨1, by omega, Nat.le_refl _, rfl, .inl ⟨rfl, rfl, rfl⟩, rfl⟩
          case round =>
            obtain ⟨i, hig, hi1, rfl, hcs, rfl⟩ := hrel
            rcases hcs with ⟨rfl, rfl, rfl⟩ | ⟨rfl, rfl, rfl⟩ | ⟨rfl, rfl, rfl⟩
            · have HN := hid (show dkGo s a 1 0 2 u = R by rw [← HS.out, if_neg (fun q => by simp [dkBad] at q)])
              have e1 : ¬ (55296 ≤ (u : Int)) := by omega
              go_wp2
              go_roundg 0
              case measure => omega
              case rel => exact ⟨2, u, by omega, by omega, rfl, rfl, ⟨by omega, by omega, by omega⟩, HN.out, rfl⟩
            · exact absurd hig (by omega)
            · exact absurd hig (by omega)
        · rw [if_neg (fun q => hk2 q.1)] at HS
          have hkd : decide ((k : Int) = 1) = false := decide_eq_false (by omega)
          have hkd2 : ((k : Int) == 1) = false := by rw [beq_eq_false_iff_ne]; omega
          go_wp2
          go_roundg gk
          case measure => omega
          case rel => exact ⟨k + 1, u, by have := HGK.out; omega, by omega, rfl, by go_num, ⟨by omega, by omega, by omega⟩, HS.out, rfl⟩
      · obtain rfl : gk = 0 := by omega
        have HE := hid (show ((v : Int), 1 + 1) = R from HK.out)
        have hleI : ¬ ((k : Int) ≤ 1) := by omega
        go_wp2
        go_ret2
        exact ⟨by rw [← HE.out]; rfl, rfl⟩
  by_cases h3 : 224 ≤ b ∧ b ≤ 239
  · have HL := hid (show dkLead b = (2, b - 224) by unfold dkLead; rw [if_neg h2, if_pos h3])
    rw [HL.out] at HR
    have HE := hid (show dkGo s a 2 2 1 (b - 224) = R from HR.out)
    obtain ⟨h5, h6⟩ := h3
    have h5I : (224 : Int) ≤ (b : Int) := by omega
    have h6I : (b : Int) ≤ 239 := by omega
    have hvb : b - 224 < 32 := by omega
    clear HR HL
    go_wp2_with fail
    go_loopg [8, 9] 2 (fun gk v8 v9 wq => ∃ k v : Nat, k + gk = 2 + 1 ∧ 1 ≤ k ∧ v8 = .int .i64 (v : Nat) ∧ v9 = .int .i64 (k : Nat) ∧ ((k = 1 → v < 32) ∧ (k = 2 → v < 2048) ∧ (k = 3 → v < 131072)) ∧ dkGo s a 2 gk k v = R ∧ w = wq)
    case atStart => exact ⟨1, b - 224, by omega, Nat.le_refl _, by congr 1; omega, rfl, ⟨fun _ => hvb, by omega, by omega⟩, HE.out, rfl⟩
    case round =>
      obtain ⟨k, v, hk, hk1, rfl, rfl, hvk, hdk, rfl⟩ := hrel
      have HK := hid hdk
      clear hdk HE
      by_cases hle : k ≤ 2
      · obtain ⟨gk, rfl⟩ : ∃ f, gk = f + 1 := ⟨gk - 1, by omega⟩
        have HS := hid HK.out
        unfold dkGo at HS
        have hleI : (k : Int) ≤ 2 := by omega
        clear HK
        by_cases hend : s.size ≤ a + k
        · have HE := hid (show (-1, k) = R by rw [← HS.out, if_pos hend])
          have hendI : (s.size : Int) ≤ (a : Int) + (k : Int) := by omega
          go_wp2
          go_ret2
          exact ⟨by rw [← HE.out]; rfl, rfl⟩
        rw [if_neg hend] at HS
        have hendI : (a : Int) + (k : Int) < (s.size : Int) := by omega
        have HB := hid (by_get s (a + k) (by omega))
        have hyl := by_lt s (a + k)
        have HGK := hid hk
        go_upto_region 19 with fail
        go_cut [10] (fun v wd => v = .int .i64 (byN s (a + k) : Nat) ∧ w = wd)
        case first =>
          go_wp2
          go_meet
          case rel => exact ⟨by rw [HB.out, IntWalk.wrap64_in _ (by omega)], rfl⟩
        obtain ⟨rfl, rfl⟩ := hcut
        clear HB hend hendI
        generalize byN s (a + k) = y at *
        by_cases hy1 : y < 128
        · have HE := hid (show (-1, k) = R by rw [← HS.out, if_pos (.inl hy1)])
          have hyI : (y : Int) < 128 := by omega
          go_wp2
          go_ret2
          exact ⟨by rw [← HE.out]; rfl, rfl⟩
        by_cases hy2 : 191 < y
        · have HE := hid (show (-1, k) = R by rw [← HS.out, if_pos (.inr hy2)])
          have hyI : ¬ ((y : Int) < 128) := by omega
          have hyJ : 191 < (y : Int) := by omega
          go_wp2
          go_ret2
          exact ⟨by rw [← HE.out]; rfl, rfl⟩
        rw [if_neg (by omega)] at HS
        have hyI : ¬ ((y : Int) < 128) := by omega
        have hyJ : ¬ (191 < (y : Int)) := by omega
        obtain ⟨u, hu⟩ : ∃ u, u = 64 * v + y - 128 := ⟨_, rfl⟩
        rw [← hu] at HS
        have hub : (k = 1 → u < 2048) ∧ (k = 2 → u < 131072) ∧ u < 8388608 := by omega
        go_upto_region 22 with fail
        go_cut [8] (fun v wd => v = .int .i64 (u : Nat) ∧ w = wd)
        case first =>
          go_wp2
          go_meet
          case rel => exact ⟨by congr 1; omega, rfl⟩
        obtain ⟨rfl, rfl⟩ := hcut
        clear hu hyI hyJ hyl hy1 hy2 hvk
        by_cases hk2 : k = 1
        · subst hk2
          have hu2 : u < 2048 := hub.1 rfl
          clear hub
          obtain rfl : gk = 1 := by have := HGK.out; omega
          go_wp2_with fail
          go_loopg [11, 12, 13] 1 (fun g2 v11 v12 v13 wq => ∃ i : Nat, i + g2 = 2 ∧ 1 ≤ i ∧ v13 = .int .i64 (i : Nat) ∧ ((i = 1 ∧ v11 = .int .i64 (u : Nat) ∧ v12 = .int .i64 (u : Nat)) ∨ (i = 2 ∧ v11 = .int .i64 ((64 * u : Nat) : Int) ∧ v12 = .int .i64 ((64 * u + 63 : Nat) : Int)) ∨ (i = 3 ∧ v11 = .int .i64 ((4096 * u : Nat) : Int) ∧ v12 = .int .i64 ((4096 * u + 4095 : Nat) : Int))) ∧ w = wq)
          case atStart => exact ⟨1, by omega, Nat.le_refl _, rfl, .inl ⟨rfl, rfl, rfl⟩, rfl⟩
          case round =>
            obtain ⟨i, hig, hi1, rfl, hcs, rfl⟩ := hrel
            rcases hcs with ⟨rfl, rfl, rfl⟩ | ⟨rfl, rfl, rfl⟩ | ⟨rfl, rfl, rfl⟩
            · go_wp2
              go_roundg (gk - 1)
              case measure => omega
              case rel => exact ⟨2, by omega, by omega, rfl, .inr (.inl ⟨rfl, by first | rfl | (congr 1; omega), by first | rfl | (congr 1; omega)⟩), rfl⟩
            · by_cases e1 : 64 * u + 63 < 2048
              · have HN := hid (show (-1, 1) = R by rw [← HS.out, if_pos ⟨by first | trivial | rfl, by simp [dkBad]; omega⟩])
                have f1 : 64 * (u : Int) + 63 < 2048 := by omega
                go_wp2
                go_ret2
                exact ⟨by rw [← HN.out]; rfl, rfl⟩
              · have f1 : ¬ (64 * (u : Int) + 63 < 2048) := by omega
                by_cases e2 : 55296 ≤ 64 * u
                · have f2 : 55296 ≤ 64 * (u : Int) := by omega
                  by_cases e3 : 64 * u + 63 ≤ 57343
                  · have HN := hid (show (-1, 1) = R by rw [← HS.out, if_pos ⟨by first | trivial | rfl, by simp [dkBad]; omega⟩])
                    have f3 : 64 * (u : Int) + 63 ≤ 57343 := by omega
                    go_wp2
                    go_ret2
                    exact ⟨by rw [← HN.out]; rfl, rfl⟩
                  · have HN := hid (show dkGo s a 2 1 2 u = R by rw [← HS.out, if_neg (fun q => by simp [dkBad] at q; omega)])
                    have f3 : ¬ (64 * (u : Int) + 63 ≤ 57343) := by omega
                    go_wp2
                    go_roundg 1
                    case measure => omega
                    case rel => exact ⟨2, u, by omega, by omega, rfl, rfl, ⟨by omega, by omega, by omega⟩, HN.out, rfl⟩
                · have HN := hid (show dkGo s a 2 1 2 u = R by rw [← HS.out, if_neg (fun q => by simp [dkBad] at q; omega)])
                  have f2 : ¬ (55296 ≤ 64 * (u : Int)) := by omega
                  go_wp2
                  go_roundg 1
                  case measure => omega
                  case rel => exact ⟨2, u, by omega, by omega, rfl, rfl, ⟨by omega, by omega, by omega⟩, HN.out, rfl⟩
            · exact absurd hig (by omega)
        · rw [if_neg (fun q => hk2 q.1)] at HS
          have hkd : decide ((k : Int) = 1) = false := decide_eq_false (by omega)
          have hkd2 : ((k : Int) == 1) = false := by rw [beq_eq_false_iff_ne]; omega
          go_wp2
          go_roundg gk
          case measure => omega
          case rel => exact ⟨k + 1, u, by have := HGK.out; omega, by omega, rfl, by go_num, ⟨by omega, by omega, by omega⟩, HS.out, rfl⟩
      · obtain rfl : gk = 0 := by omega
        have HE := hid (show ((v : Int), 2 + 1) = R from HK.out)
        have hleI : ¬ ((k : Int) ≤ 2) := by omega
        go_wp2
        go_ret2
        exact ⟨by rw [← HE.out]; rfl, rfl⟩
  by_cases h4 : 240 ≤ b ∧ b ≤ 244
  · have HL := hid (show dkLead b = (3, b - 240) by unfold dkLead; rw [if_neg h2, if_neg h3, if_pos h4])
    rw [HL.out] at HR
    have HE := hid (show dkGo s a 3 3 1 (b - 240) = R from HR.out)
    obtain ⟨h5, h6⟩ := h4
    have h5I : (240 : Int) ≤ (b : Int) := by omega
    have h6I : (b : Int) ≤ 244 := by omega
    have hvb : b - 240 < 32 := by omega
    clear HR HL
    go_wp2_with fail
    go_loopg [8, 9] 3 (fun gk v8 v9 wq => ∃ k v : Nat, k + gk = 3 + 1 ∧ 1 ≤ k ∧ v8 = .int .i64 (v : Nat) ∧ v9 = .int .i64 (k : Nat) ∧ ((k = 1 → v < 32) ∧ (k = 2 → v < 2048) ∧ (k = 3 → v < 131072)) ∧ dkGo s a 3 gk k v = R ∧ w = wq)
    case atStart => exact ⟨1, b - 240, by omega, Nat.le_refl _, by congr 1; omega, rfl, ⟨fun _ => hvb, by omega, by omega⟩, HE.out, rfl⟩
    case round =>
      obtain ⟨k, v, hk, hk1, rfl, rfl, hvk, hdk, rfl⟩ := hrel
      have HK := hid hdk
      clear hdk HE
      by_cases hle : k ≤ 3
      · obtain ⟨gk, rfl⟩ : ∃ f, gk = f + 1 := ⟨gk - 1, by omega⟩
        have HS := hid HK.out
        unfold dkGo at HS
        have hleI : (k : Int) ≤ 3 := by omega
        clear HK
        by_cases hend : s.size ≤ a + k
        · have HE := hid (show (-1, k) = R by rw [← HS.out, if_pos hend])
          have hendI : (s.size : Int) ≤ (a : Int) + (k : Int) := by omega
          go_wp2
          go_ret2
          exact ⟨by rw [← HE.out]; rfl, rfl⟩
        rw [if_neg hend] at HS
        have hendI : (a : Int) + (k : Int) < (s.size : Int) := by omega
        have HB := hid (by_get s (a + k) (by omega))
        have hyl := by_lt s (a + k)
        have HGK := hid hk
        go_upto_region 19 with fail
        go_cut [10] (fun v wd => v = .int .i64 (byN s (a + k) : Nat) ∧ w = wd)
        case first =>
          go_wp2
          go_meet
          case rel => exact ⟨by rw [HB.out, IntWalk.wrap64_in _ (by omega)], rfl⟩
        obtain ⟨rfl, rfl⟩ := hcut
        clear HB hend hendI
        generalize byN s (a + k) = y at *
        by_cases hy1 : y < 128
        · have HE := hid (show (-1, k) = R by rw [← HS.out, if_pos (.inl hy1)])
          have hyI : (y : Int) < 128 := by omega
          go_wp2
          go_ret2
          exact ⟨by rw [← HE.out]; rfl, rfl⟩
        by_cases hy2 : 191 < y
        · have HE := hid (show (-1, k) = R by rw [← HS.out, if_pos (.inr hy2)])
          have hyI : ¬ ((y : Int) < 128) := by omega
          have hyJ : 191 < (y : Int) := by omega
          go_wp2
          go_ret2
          exact ⟨by rw [← HE.out]; rfl, rfl⟩
        rw [if_neg (by omega)] at HS
        have hyI : ¬ ((y : Int) < 128) := by omega
        have hyJ : ¬ (191 < (y : Int)) := by omega
        obtain ⟨u, hu⟩ : ∃ u, u = 64 * v + y - 128 := ⟨_, rfl⟩
        rw [← hu] at HS
        have hub : (k = 1 → u < 2048) ∧ (k = 2 → u < 131072) ∧ u < 8388608 := by omega
        go_upto_region 22 with fail
        go_cut [8] (fun v wd => v = .int .i64 (u : Nat) ∧ w = wd)
        case first =>
          go_wp2
          go_meet
          case rel => exact ⟨by congr 1; omega, rfl⟩
        obtain ⟨rfl, rfl⟩ := hcut
        clear hu hyI hyJ hyl hy1 hy2 hvk
        by_cases hk2 : k = 1
        · subst hk2
          have hu2 : u < 2048 := hub.1 rfl
          clear hub
          obtain rfl : gk = 2 := by have := HGK.out; omega
          go_wp2_with fail
          go_loopg [11, 12, 13] 2 (fun g2 v11 v12 v13 wq => ∃ i : Nat, i + g2 = 3 ∧ 1 ≤ i ∧ v13 = .int .i64 (i : Nat) ∧ ((i = 1 ∧ v11 = .int .i64 (u : Nat) ∧ v12 = .int .i64 (u : Nat)) ∨ (i = 2 ∧ v11 = .int .i64 ((64 * u : Nat) : Int) ∧ v12 = .int .i64 ((64 * u + 63 : Nat) : Int)) ∨ (i = 3 ∧ v11 = .int .i64 ((4096 * u : Nat) : Int) ∧ v12 = .int .i64 ((4096 * u + 4095 : Nat) : Int))) ∧ w = wq)
          case atStart => exact ⟨1, by omega, Nat.le_refl _, rfl, .inl ⟨rfl, rfl, rfl⟩, rfl⟩
          case round =>
            obtain ⟨i, hig, hi1, rfl, hcs, rfl⟩ := hrel
            rcases hcs with ⟨rfl, rfl, rfl⟩ | ⟨rfl, rfl, rfl⟩ | ⟨rfl, rfl, rfl⟩
            · go_wp2
              go_roundg (gk - 1)
              case measure => omega
              case rel => exact ⟨2, by omega, by omega, rfl, .inr (.inl ⟨rfl, by first | rfl | (congr 1; omega), by first | rfl | (congr 1; omega)⟩), rfl⟩
            · go_wp2
              go_roundg (gk - 1)
              case measure => omega
              case rel => exact ⟨3, by omega, by omega, rfl, .inr (.inr ⟨rfl, by first | rfl | (congr 1; omega), by first | rfl | (congr 1; omega)⟩), rfl⟩
            · by_cases e1 : 4096 * u + 4095 < 65536
              · have HN := hid (show (-1, 1) = R by rw [← HS.out, if_pos ⟨by first | trivial | rfl, by simp [dkBad]; omega⟩])
                have f1 : 4096 * (u : Int) + 4095 < 65536 := by omega
                go_wp2
                go_ret2
                exact ⟨by rw [← HN.out]; rfl, rfl⟩
              · have f1 : ¬ (4096 * (u : Int) + 4095 < 65536) := by omega
                by_cases e2 : 1114111 < 4096 * u
                · have HN := hid (show (-1, 1) = R by rw [← HS.out, if_pos ⟨by first | trivial | rfl, by simp [dkBad]; omega⟩])
                  have f2 : 1114111 < 4096 * (u : Int) := by omega
                  go_wp2
                  go_ret2
                  exact ⟨by rw [← HN.out]; rfl, rfl⟩
                · have HN := hid (show dkGo s a 3 2 2 u = R by rw [← HS.out, if_neg (fun q => by simp [dkBad] at q; omega)])
                  have f2 : ¬ (1114111 < 4096 * (u : Int)) := by omega
                  have f3 : 55296 ≤ 4096 * (u : Int) := by omega
                  have f4 : ¬ (4096 * (u : Int) + 4095 ≤ 57343) := by omega
                  go_wp2
                  go_roundg 2
                  case measure => omega
                  case rel => exact ⟨2, u, by omega, by omega, rfl, rfl, ⟨by omega, by omega, by omega⟩, HN.out, rfl⟩
        · rw [if_neg (fun q => hk2 q.1)] at HS
          have hkd : decide ((k : Int) = 1) = false := decide_eq_false (by omega)
          have hkd2 : ((k : Int) == 1) = false := by rw [beq_eq_false_iff_ne]; omega
          go_wp2
          go_roundg gk
          case measure => omega
          case rel => exact ⟨k + 1, u, by have := HGK.out; omega, by omega, rfl, by go_num, ⟨by omega, by omega, by omega⟩, HS.out, rfl⟩
      · obtain rfl : gk = 0 := by omega
        have HE := hid (show ((v : Int), 3 + 1) = R from HK.out)
        have hleI : ¬ ((k : Int) ≤ 3) := by omega
        go_wp2
        go_ret2
        exact ⟨by rw [← HE.out]; rfl, rfl⟩
  have HE := hid (show (-1, 1) = R by rw [← HR.out, show dkLead b = (0, 0) by unfold dkLead; rw [if_neg h2, if_neg h3, if_neg h4]]; rfl)
  rcases (show b < 194 ∨ 244 < b by omega) with h5 | h5
  all_goals
    go_wp2
    go_ret2
    exact ⟨by rw [← HE.out]; rfl, rfl⟩
end Go.Proofs.YtjpmjcadnnglnaaDoor
