/- Texts of this proof, one behind the other: what each says stands ahead of it. -/
import Derived.Test.YtdhhcefmmojcmaaGreatDoorM6
import Derived.Shelf.Strconv.AtoiAll
import Derived.Ground.NamesProg
import Derived.Test.YtdhhcefmmojcmaaGreatDoorChecked
import Derived.Test.YtdhhcefmmojcmaaGreatDoorM0
import Derived.Lib.SmallJoins
import Derived.Laws.Externs
import Derived.Lib.AtoiAllCases
/- A parser of patterns, plain: where each part ends; no condition. -/
namespace Go.Proofs.YtdhhcefmmojcmaaGreatDoor
open Go.RowKit

theorem lk_lt {R : List Int} {k : Nat} (h : lkR R k ≠ -1) : k < R.length := by
  rcases Nat.lt_or_ge k R.length with g | g
  · exact g
  · exact absurd (by unfold lkR; rw [List.getElem?_eq_none g]) h
theorem lk_is {R : List Int} {k : Nat} {c : Int} (h : lkR R k = c) (hc : c ≠ -1) : k < R.length := lk_lt (by rw [h]; exact hc)
theorem lk_at {R : List Int} {k : Nat} (h : k < R.length) : lkR R k = R[k] := by
  unfold lkR
  rw [List.getElem?_eq_getElem h]
theorem lk_out {R : List Int} {k : Nat} (h : R.length ≤ k) : lkR R k = -1 := by
  unfold lkR
  rw [List.getElem?_eq_none h]
theorem run_end {R : List Int} {p : Int → Bool} (hp : p (-1) = false) : ∀ (n k : Nat), (runF R p n k).length ≤ n ∧ ∀ i, i < (runF R p n k).length → lkR R (k + i) ≠ -1
  | 0, k => ⟨Nat.le_refl _, fun i h => absurd h (by simp [runF])⟩
  | n + 1, k => by
    have ih := run_end (R := R) hp n (k + 1)
    rw [runF]
    split
    · rename_i h
      refine ⟨by simp only [List.length_cons]; omega, fun i hi => ?_⟩
      match i, hi with
      | 0, _ => intro e; rw [Nat.add_zero] at e; rw [e, hp] at h; cases h
      | i + 1, hi =>
        have := ih.2 i (by simpa using hi)
        rwa [show k + 1 + i = k + (i + 1) by omega] at this
    · exact ⟨Nat.zero_le _, fun i h => absurd h (by simp)⟩
theorem run_le {R : List Int} {p : Int → Bool} (hp : p (-1) = false) (n k : Nat) (hk : k ≤ R.length) : k + (runF R p n k).length ≤ R.length := by
  have h := (run_end hp (R := R) n k).2
  rcases Nat.eq_zero_or_pos (runF R p n k).length with e | e
  · omega
  · have := lk_lt (h ((runF R p n k).length - 1) (by omega))
    omega
theorem digs_run (R : List Int) : ∀ (n k : Nat), digs R n k = (runF R isDig n k).map fun c => (c - 48).toNat
  | 0, k => rfl
  | n + 1, k => by
    rw [digs, runF, digs_run R n (k + 1)]
    split <;> rfl
theorem digs_le (R : List Int) (n k : Nat) (hk : k ≤ R.length) : k + (digs R n k).length ≤ R.length := by
  rw [digs_run, List.length_map]
  exact run_le (by decide) n k hk
theorem nums_fwd {R : List Int} {k : Nat} {a b : Int} {k1 : Nat} (h : numsF R k = some (a, b, k1)) : k < k1 ∧ k1 ≤ R.length := by
  unfold numsF at h
  simp only at h
  split at h
  · cases h
  split at h
  · rename_i e
    have := lk_is e (by decide)
    cases h
    omega
  split at h
  · split at h
    · rename_i e
      have := lk_is e (by decide)
      cases h
      omega
    · split at h
      · cases h
      split at h
      · rename_i e
        have := lk_is e (by decide)
        cases h
        omega
      · cases h
  · cases h
theorem bound_fwd {R : List Int} {k : Nat} {a b : Int} {k1 : Nat} (h : boundF R k = some (a, b, k1)) : k < k1 ∧ k1 ≤ R.length := by
  unfold boundF at h
  split at h
  · rename_i e; have := lk_is e (by decide); cases h; omega
  split at h
  · rename_i e; have := lk_is e (by decide); cases h; omega
  split at h
  · rename_i e; have := lk_is e (by decide); cases h; omega
  split at h
  · have := nums_fwd h; omega
  · cases h
theorem quant_fwd {R : List Int} {u : Bool} {k : Nat} {a b : Int} {z : Bool} {k1 : Nat} (h : quantF R u k = .ok (some (a, b, z, k1))) : k < k1 ∧ k1 ≤ R.length := by
  unfold quantF at h
  split at h
  · cases h
  · rename_i a b k2 hb
    have := bound_fwd hb
    split at h
    · cases h
    split at h
    · rename_i e
      have := lk_is e (by decide)
      cases h
      omega
    · cases h
      omega
theorem code_fwd {R : List Int} {k0 k n k1 : Nat} (h : codeF R k0 k = .ok (n, k1)) : k < k1 ∧ k1 ≤ R.length := by
  unfold codeF at h
  simp only at h
  split at h
  · split at h
    · rename_i e
      have := lk_is e.2.1 (by decide)
      cases h
      omega
    · cases h
  · split at h
    · rename_i e
      cases h
      have := (run_end (R := R) (p := isHex) (by decide) 2 k).2 1 (by omega)
      have := lk_lt this
      omega
    · cases h
theorem named_fwd {R : List Int} {tab : List (ByteArray × List R2)} {k0 : Nat} {neg : Bool} {k k1 : Nat} {l : List R2} (h : namedF R tab k0 neg k = .ok (l, k1)) : k < k1 ∧ k1 ≤ R.length := by
  unfold namedF at h
  simp only at h
  split at h
  · split at h
    · split at h
      · rename_i e
        have := lk_is e (by decide)
        cases h
        omega
      · cases h
    · cases h
  · cases h
theorem ite_is {α : Sort _} {p : Prop} [Decidable p] {a b x : α} (h : (if p then a else b) = x) : (p ∧ a = x) ∨ (¬ p ∧ b = x) := by
  by_cases e : p
  · exact .inl ⟨e, by rwa [if_pos e] at h⟩
  · exact .inr ⟨e, by rwa [if_neg e] at h⟩
theorem esc_fwd {R : List Int} {tab : List (ByteArray × List R2)} {k0 k k1 : Nat} {l : List R2} {o : Option Int} (h : escF R tab k0 k = .ok (l, o, k1)) : k < k1 ∧ k1 ≤ R.length := by
  unfold escF escC at h
  have one : ∀ {c : Int}, c ≠ -1 → lkR R k = c → k < k + 1 ∧ k + 1 ≤ R.length := fun hc e => ⟨by omega, lk_is e hc⟩
  rcases ite_is h with ⟨e, h⟩ | ⟨_, h⟩
  · cases h; exact one (by decide) e
  rcases ite_is h with ⟨e, h⟩ | ⟨_, h⟩
  · cases h; exact one (by decide) e
  rcases ite_is h with ⟨e, h⟩ | ⟨_, h⟩
  · cases h; exact one (by decide) e
  rcases ite_is h with ⟨e, h⟩ | ⟨_, h⟩
  · cases h; exact one (by decide) e
  rcases ite_is h with ⟨e, h⟩ | ⟨_, h⟩
  · cases h; exact one (by decide) e
  rcases ite_is h with ⟨e, h⟩ | ⟨_, h⟩
  · cases h; exact one (by decide) e
  rcases ite_is h with ⟨_, h⟩ | ⟨_, h⟩
  · split at h
    · cases h
    · rename_i hn
      have := named_fwd hn
      cases h
      omega
  rcases ite_is h with ⟨_, h⟩ | ⟨_, h⟩
  · split at h
    · cases h
    · rename_i hn
      have := code_fwd hn
      cases h
      omega
  rcases ite_is h with ⟨e, h⟩ | ⟨_, h⟩
  · cases h; exact one (by decide) e
  rcases ite_is h with ⟨e, h⟩ | ⟨_, h⟩
  · cases h; exact one (by decide) e
  rcases ite_is h with ⟨e, h⟩ | ⟨_, h⟩
  · cases h; exact one (by decide) e
  rcases ite_is h with ⟨e, h⟩ | ⟨_, h⟩
  · cases h; exact one (by decide) e
  rcases ite_is h with ⟨e, h⟩ | ⟨_, h⟩
  · cases h; exact one (by decide) e
  rcases ite_is h with ⟨_, h⟩ | ⟨e, h⟩
  · cases h
  · have : lkR R k ≠ -1 := fun x => e (.inl (by omega))
    have := lk_lt this
    cases h
    omega
theorem memb_fwd {R : List Int} {tab : List (ByteArray × List R2)} {op k k1 : Nat} {l : List R2} {o : Option Int} (h : membF R tab op k = .ok (l, o, k1)) : k < k1 ∧ k1 ≤ R.length := by
  unfold membF at h
  split at h
  · cases h
  rename_i e
  have := lk_lt e
  split at h
  · have := esc_fwd h
    omega
  · cases h
    omega
theorem item_fwd {R : List Int} {tab : List (ByteArray × List R2)} {op k k1 : Nat} {l : List R2} (h : itemF R tab op k = .ok (l, k1)) : k < k1 ∧ k1 ≤ R.length := by
  unfold itemF at h
  split at h
  · cases h
  · rename_i hm
    have := memb_fwd hm
    cases h
    omega
  · rename_i hm
    have := memb_fwd hm
    split at h
    · split at h
      · cases h
      · cases h
      · rename_i hm2
        have := memb_fwd hm2
        split at h
        · cases h
        · cases h
          omega
    · cases h
      omega
theorem items_fwd {R : List Int} {tab : List (ByteArray × List R2)} {op : Nat} : ∀ (f k : Nat) (l m : List R2) (k1 : Nat), k ≤ R.length → itemsF R tab op f k l = .ok (m, k1) → k ≤ k1 ∧ k1 ≤ R.length
  | 0, k, l, m, k1, hk, h => by
    rw [itemsF] at h
    cases h
    omega
  | f + 1, k, l, m, k1, hk, h => by
    rw [itemsF] at h
    split at h
    · rename_i e
      have := lk_is e (by decide)
      cases h
      omega
    · split at h
      · cases h
      · rename_i hi
        have := item_fwd hi
        have := items_fwd f _ _ m k1 this.2 h
        omega
theorem class2_fwd {R : List Int} {tab : List (ByteArray × List R2)} {op k k1 : Nat} {l : List R2} (h : class2 R tab op k = .ok (l, k1)) : k < k1 ∧ k1 ≤ R.length := by
  unfold class2 at h
  split at h
  · cases h
  · rename_i hi
    have := item_fwd hi
    have := items_fwd _ _ _ _ _ this.2 h
    omega
theorem turn_fwd {neg : Bool} {r : PR (List R2 × Nat)} {l : List R2} {k : Nat} (h : turnC neg r = .ok (l, k)) : ∃ m, r = .ok (m, k) := by
  match r, h with
  | .ok (m, k2), h => cases h; exact ⟨m, rfl⟩
theorem class_fwd {R : List Int} {tab : List (ByteArray × List R2)} {op k k1 : Nat} {l : List R2} (h : classF R tab op k = .ok (l, k1)) : k < k1 ∧ k1 ≤ R.length := by
  unfold classF at h
  split at h
  · obtain ⟨m, hm⟩ := turn_fwd h
    have := class2_fwd hm
    omega
  · obtain ⟨m, hm⟩ := turn_fwd h
    exact class2_fwd hm

def Fwd (R : List Int) (f : Sub) : Prop := ∀ st x s1, st.k ≤ R.length → f st = .ok (x, s1) → st.k ≤ s1.k ∧ s1.k ≤ R.length
theorem let_fwd {R : List Int} : ∀ (n k : Nat) (f : Fl), k ≤ R.length → k ≤ (letF R n k f).2 ∧ (letF R n k f).2 ≤ R.length
  | 0, k, f, hk => ⟨Nat.le_refl _, hk⟩
  | n + 1, k, f, hk => by
    rw [letF]
    split
    · rename_i e; have := lk_is e.1 (by decide); have := let_fwd (R := R) n (k + 1) { f with i := true } (by omega); omega
    split
    · rename_i e; have := lk_is e.1 (by decide); have := let_fwd (R := R) n (k + 1) { f with m := true } (by omega); omega
    split
    · rename_i e; have := lk_is e.1 (by decide); have := let_fwd (R := R) n (k + 1) { f with s := true } (by omega); omega
    split
    · rename_i e; have := lk_is e.1 (by decide); have := let_fwd (R := R) n (k + 1) { f with u := true } (by omega); omega
    · exact ⟨Nat.le_refl _, hk⟩
theorem flags_fwd {R : List Int} (f : Fl) (k : Nat) (hk : k ≤ R.length) : k ≤ (flagsF R f k).2.2 ∧ (flagsF R f k).2.2 ≤ R.length := by
  have h := let_fwd (R := R) 5 k fl0 hk
  unfold flagsF
  simp only
  split
  · rename_i e
    have := lk_is e (by decide)
    have := let_fwd (R := R) 5 ((letF R 5 k fl0).2 + 1) fl0 (by omega)
    simp only
    omega
  · exact h
theorem with_fwd {R : List Int} {alt : Sub} (H : Fwd R alt) {k0 : Nat} {st s1 : St} {f : Fl} {x : Nd} (hk : st.k ≤ R.length) (h : withF R alt k0 st f = .ok (x, s1)) : st.k < s1.k ∧ s1.k ≤ R.length := by
  unfold withF at h
  split at h
  · cases h
  · rename_i y s2 hs
    have := H { st with f := f } y s2 hk hs
    split at h
    · rename_i e
      have := lk_is e (by decide)
      cases h
      simp only at *
      omega
    · cases h
theorem group_fwd {R : List Int} {alt : Sub} (H : Fwd R alt) {k0 : Nat} {st s1 : St} {name : ByteArray} {x : Nd} (hk : st.k ≤ R.length) (h : groupF R alt k0 st name = .ok (x, s1)) : st.k < s1.k ∧ s1.k ≤ R.length := by
  unfold groupF at h
  split at h
  · cases h
  · rename_i y s2 hs
    have := with_fwd H (st := { st with ns := st.ns ++ [name] }) hk hs
    cases h
    exact this
theorem name_fwd {R : List Int} {k0 : Nat} {ns : List ByteArray} {k k1 : Nat} {n : ByteArray} (h : nameF R k0 ns k = .ok (n, k1)) : k < k1 ∧ k1 ≤ R.length := by
  unfold nameF at h
  simp only at h
  split at h
  · split at h
    · rename_i e
      have := lk_is e.2.1 (by decide)
      cases h
      omega
    · cases h
  · cases h
theorem brack_fwd {R : List Int} {sub : Option Sub} (H : ∀ f, sub = some f → Fwd R f) {st s1 : St} {o : Option Nd} (hk : st.k < R.length) (h : brackF R sub st = .ok (o, s1)) : st.k < s1.k ∧ s1.k ≤ R.length := by
  unfold brackF at h
  split at h
  · cases h
  rename_i alt
  have HA := H alt rfl
  split at h
  · rename_i e1
    have g1 := lk_is e1 (by decide)
    split at h
    · rename_i e2
      have g2 := lk_is e2 (by decide)
      split at h
      · cases h
      · rename_i nm k1 hn
        have := name_fwd hn
        split at h
        · cases h
        · rename_i hg
          have := group_fwd HA (by simp only; omega) hg
          cases h
          simp only at *
          omega
    split at h
    · rename_i e2
      have g2 := lk_is e2 (by decide)
      split at h
      · cases h
      · rename_i hg
        have := with_fwd HA (by simp only; omega) hg
        cases h
        simp only at *
        omega
    · simp only at h
      have gf := flags_fwd st.f (st.k + 2) g1
      split at h
      · rename_i e3
        have g3 := lk_is e3.2 (by decide)
        split at h
        · cases h
        · rename_i hg
          have := with_fwd HA (by simp only; omega) hg
          cases h
          simp only at *
          omega
      split at h
      · rename_i e3
        have g3 := lk_is e3.2 (by decide)
        cases h
        simp only
        omega
      · cases h
  · split at h
    · cases h
    · rename_i hg
      have := group_fwd HA (by simp only; omega) hg
      cases h
      simp only at *
      omega
theorem stroke_fwd {R : List Int} {tab : List (ByteArray × List R2)} {st s1 : St} {o : Option Nd} (h : strokeF R tab st = .ok (o, s1)) : st.k < s1.k ∧ s1.k ≤ R.length := by
  unfold strokeF strokeC at h
  split at h
  · rename_i e; have := lk_is e (by decide); cases h; simp only; omega
  split at h
  · rename_i e; have := lk_is e (by decide); cases h; simp only; omega
  split at h
  · rename_i e; have := lk_is e (by decide); cases h; simp only; omega
  split at h
  · rename_i e; have := lk_is e (by decide); cases h; simp only; omega
  split at h
  · cases h
  · rename_i he
    have := esc_fwd he
    cases h
    simp only
    omega
theorem atom_fwd {R : List Int} {tab : List (ByteArray × List R2)} {sub : Option Sub} (H : ∀ f, sub = some f → Fwd R f) {st s1 : St} {o : Option Nd} (hk : st.k < R.length) (h : atomF R tab sub st = .ok (o, s1)) : st.k < s1.k ∧ s1.k ≤ R.length := by
  unfold atomF atomC at h
  split at h
  · exact brack_fwd H hk h
  split at h
  · unfold clsF at h
    split at h
    · cases h
    · rename_i hc
      have := class_fwd hc
      cases h
      simp only
      omega
  split at h
  · exact stroke_fwd h
  split at h
  · cases h; simp only; omega
  split at h
  · cases h; simp only; omega
  split at h
  · cases h; simp only; omega
  · cases h; simp only; omega
theorem rep_fwd {R : List Int} {x y : Nd} {st s1 : St} (hk : st.k ≤ R.length) (h : repF R x st = .ok (y, s1)) : st.k ≤ s1.k ∧ s1.k ≤ R.length := by
  unfold repF at h
  split at h
  · cases h
  · cases h; omega
  · rename_i hq
    have := quant_fwd hq
    cases h
    simp only
    omega
theorem piece_fwd {R : List Int} {tab : List (ByteArray × List R2)} {sub : Option Sub} (H : ∀ f, sub = some f → Fwd R f) {st s1 : St} {o : Option Nd} (hk : st.k < R.length) (h : pieceF R tab sub st = .ok (o, s1)) : st.k < s1.k ∧ s1.k ≤ R.length := by
  unfold pieceF at h
  split at h
  · cases h
  split at h
  · cases h
  · rename_i ha
    have := atom_fwd H hk ha
    cases h
    exact this
  · rename_i x s2 ha
    have := atom_fwd H hk ha
    split at h
    · cases h
    · rename_i hr
      have := rep_fwd this.2 hr
      cases h
      omega
theorem row_fwd {R : List Int} {tab : List (ByteArray × List R2)} {sub : Option Sub} (H : ∀ f, sub = some f → Fwd R f) : ∀ (f : Nat) (st : St) (l m : List Nd) (s1 : St), st.k ≤ R.length → rowF R tab sub f st l = .ok (m, s1) → st.k ≤ s1.k ∧ s1.k ≤ R.length
  | 0, st, l, m, s1, hk, h => by
    rw [rowF] at h
    cases h
    omega
  | f + 1, st, l, m, s1, hk, h => by
    rw [rowF] at h
    split at h
    · cases h
      omega
    rename_i he
    have hlt : st.k < R.length := lk_lt (fun e => he (by rw [e]; rfl))
    split at h
    · cases h
    · rename_i hp
      have := piece_fwd H hlt hp
      have := row_fwd H f _ l m s1 this.2 h
      omega
    · rename_i x s2 hp
      have := piece_fwd H hlt hp
      have := row_fwd H f s2 _ m s1 this.2 h
      omega
theorem cat_fwd {R : List Int} {tab : List (ByteArray × List R2)} {sub : Option Sub} (H : ∀ f, sub = some f → Fwd R f) : Fwd R (catF R tab sub) := by
  intro st x s1 hk h
  unfold catF at h
  split at h
  · cases h
  · rename_i hr
    have := row_fwd H _ _ _ _ _ hk hr
    cases h
    exact this
theorem alts_fwd {R : List Int} {tab : List (ByteArray × List R2)} {sub : Option Sub} (H : ∀ f, sub = some f → Fwd R f) : ∀ (f : Nat) (st : St) (l : List Nd) (x : Nd) (s1 : St), st.k ≤ R.length → altsF R tab sub f st l = .ok (x, s1) → st.k ≤ s1.k ∧ s1.k ≤ R.length
  | 0, st, l, x, s1, hk, h => by
    rw [altsF] at h
    cases h
    omega
  | f + 1, st, l, x, s1, hk, h => by
    rw [altsF] at h
    split at h
    · rename_i e
      have := lk_is e (by decide)
      split at h
      · cases h
      · rename_i y s2 hc
        have := cat_fwd H { st with k := st.k + 1 } y s2 (by simp only; omega) hc
        have := alts_fwd H f s2 _ x s1 this.2 h
        simp only at *
        omega
    · cases h
      omega
theorem altB_fwd {R : List Int} {tab : List (ByteArray × List R2)} {sub : Option Sub} (H : ∀ f, sub = some f → Fwd R f) : Fwd R (altB R tab sub) := by
  intro st x s1 hk h
  unfold altB at h
  split at h
  · cases h
  · rename_i y s2 hc
    have := cat_fwd H st y s2 hk hc
    have := alts_fwd H _ s2 _ x s1 this.2 h
    omega
theorem altN_fwd (R : List Int) (tab : List (ByteArray × List R2)) : ∀ n, Fwd R (altN R tab n)
  | 0 => fun st x s1 hk h => altB_fwd (sub := none) (fun f e => by cases e) st x s1 hk (by rw [altN] at h; exact h)
  | n + 1 => fun st x s1 hk h => altB_fwd (sub := some (altN R tab n)) (fun f e => by cases e; exact altN_fwd R tab n) st x s1 hk (by rw [altN] at h; exact h)
end Go.Proofs.YtdhhcefmmojcmaaGreatDoor

/-
  DERIVED: THE SHELF's CONTRACTS AT THIS DUMP, IN PLAIN WORDS (tools/lay-plain.mjs out of 'YtdhhcefmmojcmaaGreatDoorShAq.lean', which tools/lay-shelf.mjs wrote): THE SAME DECLARATIONS UNDER THE SAME NAMES: 'import', 'namespace', 'open', 'def', 'theorem' AND NOTHING ELSE: no command of the shelf's: FOR A HAND-IN. Each laying: the table of numbers ('.._ren') and one theorem, a field a fact of the dump's own or the kernel's comparison; each contract: ONE APPLICATION.
-/
namespace Go.Proofs
open Go.Shelf
def Tryz.laysC172_ren : Go.Shelf.Ren := ⟨fun | 172 => 148 | 244 => 155 | 245 => 156 | 247 => 157 | 279 => 158 | 280 => 159 | 281 => 160 | 282 => 161 | 287 => 162 | 316 => 163 | 171 => 165 | 205 => 164 | 321 => 166 | 322 => 167 | 243 => 168 | 246 => 169 | 283 => 170 | 284 => 171 | 285 => 172 | 286 => 173 | 129 => 87 | 317 => 174 | 318 => 175 | 319 => 176 | 320 => 177 | 337 => 178 | 338 => 179 | n => n, fun | 9 => 9 | 3 => 3 | 75 => 192 | 76 => 193 | 4 => 4 | 5 => 5 | 167 => 201 | 37 => 49 | 0 => 0 | 85 => 198 | 2 => 2 | 168 => 202 | 53 => 144 | 175 => 205 | 46 => 112 | 210 => 209 | 127 => 212 | 145 => 215 | 143 => 213 | 21 => 21 | 171 => 217 | 173 => 219 | 212 => 222 | 51 => 142 | 20 => 20 | 213 => 223 | 232 => 224 | 233 => 225 | 80 => 226 | n => n, fun | 15 => 2 | 16 => 3 | 17 => 4 | 18 => 5 | 19 => 6 | n => n⟩
theorem Tryz.laysC172 : Go.Proofs.LaysC.n172 Tryz.prog Tryz.laysC172_ren := {
  mixed := by kernel_rfl
  f129 := Tryz.func87.trans (congrArg some (by kernel_rfl))
  f171 := Tryz.func165.trans (congrArg some (by kernel_rfl))
  f172 := Tryz.func148.trans (congrArg some (by kernel_rfl))
  f205 := Tryz.func164.trans (congrArg some (by kernel_rfl))
  f243 := Tryz.func168.trans (congrArg some (by kernel_rfl))
  f244 := Tryz.func155.trans (congrArg some (by kernel_rfl))
  f245 := Tryz.func156.trans (congrArg some (by kernel_rfl))
  f246 := Tryz.func169.trans (congrArg some (by kernel_rfl))
  f247 := Tryz.func157.trans (congrArg some (by kernel_rfl))
  f279 := Tryz.func158.trans (congrArg some (by kernel_rfl))
  f280 := Tryz.func159.trans (congrArg some (by kernel_rfl))
  f281 := Tryz.func160.trans (congrArg some (by kernel_rfl))
  f282 := Tryz.func161.trans (congrArg some (by kernel_rfl))
  f283 := Tryz.func170.trans (congrArg some (by kernel_rfl))
  f284 := Tryz.func171.trans (congrArg some (by kernel_rfl))
  f285 := Tryz.func172.trans (congrArg some (by kernel_rfl))
  f286 := Tryz.func173.trans (congrArg some (by kernel_rfl))
  f287 := Tryz.func162.trans (congrArg some (by kernel_rfl))
  f316 := Tryz.func163.trans (congrArg some (by kernel_rfl))
  f317 := Tryz.func174.trans (congrArg some (by kernel_rfl))
  f318 := Tryz.func175.trans (congrArg some (by kernel_rfl))
  f319 := Tryz.func176.trans (congrArg some (by kernel_rfl))
  f320 := Tryz.func177.trans (congrArg some (by kernel_rfl))
  f321 := Tryz.func166.trans (congrArg some (by kernel_rfl))
  f322 := Tryz.func167.trans (congrArg some (by kernel_rfl))
  f337 := Tryz.func178.trans (congrArg some (by kernel_rfl))
  f338 := Tryz.func179.trans (congrArg some (by kernel_rfl))
  t0 := Tryz.underlying0
  a0 := Tryz.isAgg0
  z0 := Tryz.sizeOf0
  v0 := Tryz.zeroValue0
  t2 := Tryz.underlying2
  a2 := Tryz.isAgg2
  z2 := Tryz.sizeOf2
  v2 := Tryz.zeroValue2
  t3 := Tryz.underlying3
  a3 := Tryz.isAgg3
  z3 := Tryz.sizeOf3
  v3 := Tryz.zeroValue3
  t4 := Tryz.underlying4
  a4 := Tryz.isAgg4
  z4 := Tryz.sizeOf4
  v4 := Tryz.zeroValue4
  t5 := Tryz.underlying5
  a5 := Tryz.isAgg5
  z5 := Tryz.sizeOf5
  v5 := Tryz.zeroValue5
  t9 := Tryz.underlying9
  a9 := Tryz.isAgg9
  z9 := Tryz.sizeOf9
  v9 := Tryz.zeroValue9
  t20 := Tryz.underlying20
  a20 := Tryz.isAgg20
  z20 := Tryz.sizeOf20
  v20 := Tryz.zeroValue20
  t21 := Tryz.underlying21
  a21 := Tryz.isAgg21
  z21 := Tryz.sizeOf21
  v21 := Tryz.zeroValue21
  t37 := Tryz.underlying49
  a37 := Tryz.isAgg49
  z37 := Tryz.sizeOf49
  v37 := Tryz.zeroValue49
  t46 := Tryz.underlying112
  a46 := Tryz.isAgg112
  z46 := Tryz.sizeOf112
  v46 := Tryz.zeroValue112
  t51 := Tryz.underlying142
  a51 := Tryz.isAgg142
  z51 := Tryz.sizeOf142
  v51 := Tryz.zeroValue142
  t53 := Tryz.underlying144
  a53 := Tryz.isAgg144
  z53 := Tryz.sizeOf144
  v53 := Tryz.zeroValue144
  t75 := Tryz.underlying192
  a75 := Tryz.isAgg192
  z75 := Tryz.sizeOf192
  v75 := Tryz.zeroValue192
  t76 := Tryz.underlying193
  a76 := Tryz.isAgg193
  z76 := Tryz.sizeOf193
  v76 := Tryz.zeroValue193
  t85 := Tryz.underlying198
  a85 := Tryz.isAgg198
  z85 := Tryz.sizeOf198
  v85 := Tryz.zeroValue198
  t127 := Tryz.underlying212
  a127 := Tryz.isAgg212
  z127 := Tryz.sizeOf212
  v127 := Tryz.zeroValue212
  t143 := Tryz.underlying213
  a143 := Tryz.isAgg213
  z143 := Tryz.sizeOf213
  v143 := Tryz.zeroValue213
  t145 := Tryz.underlying215
  a145 := Tryz.isAgg215
  z145 := Tryz.sizeOf215
  v145 := Tryz.zeroValue215
  t167 := Tryz.underlying201
  a167 := Tryz.isAgg201
  z167 := Tryz.sizeOf201
  v167 := Tryz.zeroValue201
  t168 := Tryz.underlying202
  a168 := Tryz.isAgg202
  z168 := Tryz.sizeOf202
  v168 := Tryz.zeroValue202
  t171 := Tryz.underlying217
  a171 := Tryz.isAgg217
  z171 := Tryz.sizeOf217
  v171 := Tryz.zeroValue217
  t173 := Tryz.underlying219
  a173 := Tryz.isAgg219
  z173 := Tryz.sizeOf219
  v173 := Tryz.zeroValue219
  t175 := Tryz.underlying205
  a175 := Tryz.isAgg205
  z175 := Tryz.sizeOf205
  v175 := Tryz.zeroValue205
  t210 := Tryz.underlying209
  a210 := Tryz.isAgg209
  z210 := Tryz.sizeOf209
  v210 := Tryz.zeroValue209
  t212 := Tryz.underlying222
  a212 := Tryz.isAgg222
  z212 := Tryz.sizeOf222
  v212 := Tryz.zeroValue222
  t213 := Tryz.underlying223
  a213 := Tryz.isAgg223
  z213 := Tryz.sizeOf223
  t232 := Tryz.underlying224
  a232 := Tryz.isAgg224
  z232 := Tryz.sizeOf224
  v232 := Tryz.zeroValue224
  t233 := Tryz.underlying225
  a233 := Tryz.isAgg225
  z233 := Tryz.sizeOf225
  v233 := Tryz.zeroValue225
  g15 := by kernel_rfl
  g16 := by kernel_rfl
  g17 := by kernel_rfl
  g18 := by kernel_rfl
  g19 := by kernel_rfl
  t80 := Tryz.underlying226
  a80 := Tryz.isAgg226
  z80 := Tryz.sizeOf226
  v80 := Tryz.zeroValue226
  i0 := by kernel_rfl
  i2 := by kernel_rfl
  i3 := by kernel_rfl
  i4 := by kernel_rfl
  i5 := by kernel_rfl
  i9 := by kernel_rfl
  i20 := by kernel_rfl
  i21 := by kernel_rfl
  i37 := by kernel_rfl
  i46 := by kernel_rfl
  i51 := by kernel_rfl
  i53 := by kernel_rfl
  i75 := by kernel_rfl
  i76 := by kernel_rfl
  i80 := by kernel_rfl
  i85 := by kernel_rfl
  i127 := by kernel_rfl
  i143 := by kernel_rfl
  i145 := by kernel_rfl
  i167 := by kernel_rfl
  i168 := by kernel_rfl
  i171 := by kernel_rfl
  i173 := by kernel_rfl
  i175 := by kernel_rfl
  i210 := by kernel_rfl
  i212 := by kernel_rfl
  i232 := by kernel_rfl
  i233 := by kernel_rfl
  m15 := by kernel_rfl
  m16 := by kernel_rfl
  m17 := by kernel_rfl
  m18 := by kernel_rfl
  m19 := by kernel_rfl
  c0 := by kernel_rfl
  c2 := by kernel_rfl
  c3 := by kernel_rfl
  c4 := by kernel_rfl
  c5 := by kernel_rfl
  c9 := by kernel_rfl
  c20 := by kernel_rfl
  c21 := by kernel_rfl
  c37 := by kernel_rfl
  c46 := by kernel_rfl
  c51 := by kernel_rfl
  c53 := by kernel_rfl
  c75 := by kernel_rfl
  c76 := by kernel_rfl
  c80 := by kernel_rfl
  c85 := by kernel_rfl
  c127 := by kernel_rfl
  c143 := by kernel_rfl
  c145 := by kernel_rfl
  c167 := by kernel_rfl
  c168 := by kernel_rfl
  c171 := by kernel_rfl
  c173 := by kernel_rfl
  c175 := by kernel_rfl
  c210 := by kernel_rfl
  c212 := by kernel_rfl
  c213 := by kernel_rfl
  c232 := by kernel_rfl
  c233 := by kernel_rfl }
end Go.Proofs

/- What a parser of patterns calls of strconv: Atoi; conditions: the texts fit into memory, the library's variables lie there. -/
namespace Go.Proofs.YtdhhcefmmojcmaaGreatDoor
open Go.RowKit
open Go.Lib

abbrev Bs := List UInt8
theorem Below.touch {w w' : World} (h : Below w.heap.size w w') : Touch (fun _ => False) w w' := (touch_of_below h).mono (fun i hi e => by omega)
/-- The library's variables lie there. -/
structure Sx (w : World) : Prop where
  syn : ∃ ev, w.cell? ⟨2, 0, none⟩ = some ev ∧ (ev = .nilIface ∨ ∃ te pe, ev = .iface te pe)
  ran : ∃ ev, w.cell? ⟨3, 0, none⟩ = some ev ∧ (ev = .nilIface ∨ ∃ te pe, ev = .iface te pe)
theorem Sx.kept {w w' : World} {S : Nat → Prop} (h : Sx w) (t : Touch S w w') (hS : ∀ g, S g → 7 ≤ g) : Sx w' := by
  refine ⟨?_, ?_⟩
  · obtain ⟨ev, h1, h2⟩ := h.syn
    exact ⟨ev, by rw [t.cell (p := ⟨2, 0, none⟩) (Lib.lt_of_cell h1) (fun e => by have := hS _ e; simp at this)]; exact h1, h2⟩
  · obtain ⟨ev, h1, h2⟩ := h.ran
    exact ⟨ev, by rw [t.cell (p := ⟨3, 0, none⟩) (Lib.lt_of_cell h1) (fun e => by have := hS _ e; simp at this)]; exact h1, h2⟩
theorem Sx.new {w w' : World} (h : Sx w) (t : Touch (fun _ => False) w w') : Sx w' := h.kept t (fun _ e => e.elim)
/-- What Atoi tells: a number, or an error. -/
def atV (s : Bs) (v : Value) : Prop := match atoiAll s with
  | .ok n => v = .tuple #[.int .i64 n, .nilIface]
  | .syntax => ∃ n a, v = .tuple #[.int .i64 n, .iface 202 (.pointer a)]
  | .range => ∃ n a, v = .tuple #[.int .i64 n, .iface 202 (.pointer a)]
theorem atoi_any (s : ByteArray) (hs : s.size ≤ 140737488355328) (w : World) (hx : Sx w) :
    Calls Tryz.prog 148 #[.string s] w fun e w' => ∃ v, e = .returned v ∧ atV s.data.toList v ∧ Touch (fun _ => False) w w' := by
  unfold atV
  cases h : atoiAll s.data.toList with
  | ok n =>
    refine (Any.strconv_Atoi_ok Tryz.laysC172 s (by omega) n h w).mono ?_
    rintro e w' ⟨rfl, hw⟩
    refine ⟨_, rfl, rfl, ?_⟩
    rcases hw with rfl | ⟨t, rfl⟩
    · exact Touch.refl _ _
    · exact Below.touch (Go.Joins.below_bytesWorld w.heap.size w _ t (Nat.le_refl _))
  | «syntax» =>
    obtain ⟨ev, hv, hev⟩ := hx.syn
    refine (Any.strconv_Atoi_syntax Tryz.laysC172 s (by omega) h ev w hv hev).mono ?_
    rintro e w' ⟨N, rfl, _, _, b⟩
    exact ⟨_, rfl, ⟨_, _, rfl⟩, Below.touch b⟩
  | range =>
    obtain ⟨ev, hv, hev⟩ := hx.ran
    refine (Any.strconv_Atoi_range Tryz.laysC172 s (by omega) h ev w hv hev).mono ?_
    rintro e w' ⟨N, rfl, _, _, b⟩
    exact ⟨_, rfl, ⟨_, _, rfl⟩, Below.touch b⟩
end Go.Proofs.YtdhhcefmmojcmaaGreatDoor
