/- A parser of patterns, plain: which errors there are, and where; no condition. -/
import Derived.Test.YtdhhcefmmojcmaaGreatDoorM33
namespace Go.Proofs.YtdhhcefmmojcmaaGreatDoor
open Go.RowKit

/-- Only such errors are told, within the text. -/
def Er {α : Type} (R : List Int) (r : PR α) : Prop := ∀ c j, r = .error (c, j) → 20 ≤ c ∧ j ≤ R.length
theorem er_ok {α : Type} {R : List Int} (x : α) : Er R (.ok x) := fun c j h => by cases h
theorem er_at {α : Type} {R : List Int} {c j : Nat} (hc : 20 ≤ c) (hj : j ≤ R.length) : Er (α := α) R (.error (c, j)) := fun c' j' h => by cases h; exact ⟨hc, hj⟩
theorem er_err {α β : Type} {R : List Int} {r : PR α} {e : Nat × Nat} (h : Er R r) (he : r = .error e) : Er (α := β) R (.error e) := fun c j hh => by
  cases hh
  exact h c j he
section
variable {R : List Int}
theorem quant_er (u : Bool) (k : Nat) (hk : k ≤ R.length) : Er R (quantF R u k) := by
  unfold quantF
  split
  · exact er_ok _
  · split
    · exact er_at (by decide) hk
    · split
      · exact er_ok _
      · exact er_ok _
theorem code_er (k0 k : Nat) (hk : k0 ≤ R.length) : Er R (codeF R k0 k) := by
  unfold codeF
  split
  · simp only
    split
    · exact er_ok _
    · exact er_at (by decide) hk
  · simp only
    split
    · exact er_ok _
    · exact er_at (by decide) hk
theorem named_er (tab : List (ByteArray × List R2)) (k0 : Nat) (neg : Bool) (k : Nat) (hk : k0 ≤ R.length) : Er R (namedF R tab k0 neg k) := by
  unfold namedF
  split
  · simp only
    split
    · split
      · exact er_ok _
      · exact er_at (by decide) hk
    · exact er_at (by decide) hk
  · exact er_at (by decide) hk
theorem er_ite {α : Type} {p : Prop} [Decidable p] {a b : PR α} (h1 : Er R a) (h2 : Er R b) : Er R (if p then a else b) := by
  split
  · exact h1
  · exact h2
theorem esc_er (tab : List (ByteArray × List R2)) (k0 k : Nat) (hk : k0 ≤ R.length) : Er R (escF R tab k0 k) := by
  unfold escF escC
  refine er_ite (er_ok _) (er_ite (er_ok _) (er_ite (er_ok _) (er_ite (er_ok _) (er_ite (er_ok _) (er_ite (er_ok _) (er_ite ?_ (er_ite ?_ (er_ite (er_ok _) (er_ite (er_ok _) (er_ite (er_ok _) (er_ite (er_ok _) (er_ite (er_ok _) (er_ite (er_at (by decide) hk) (er_ok _))))))))))))))
  · split
    · rename_i e he
      exact er_err (named_er tab k0 _ _ hk) he
    · exact er_ok _
  · split
    · rename_i e he
      exact er_err (code_er k0 _ hk) he
    · exact er_ok _
theorem memb_er (tab : List (ByteArray × List R2)) (op k : Nat) (ho : op ≤ R.length) : Er R (membF R tab op k) := by
  unfold membF
  refine er_ite (er_at (by decide) ho) ?_
  split
  · rename_i h
    exact esc_er tab k _ (Nat.le_of_lt (lk_is h (by decide)))
  · exact er_ok _
theorem item_er (tab : List (ByteArray × List R2)) (op k : Nat) (ho : op ≤ R.length) (hk : k ≤ R.length) : Er R (itemF R tab op k) := by
  unfold itemF
  split
  · rename_i e he
    exact er_err (memb_er tab op k ho) he
  · exact er_ok _
  · refine er_ite ?_ (er_ok _)
    split
    · rename_i e he
      exact er_err (memb_er tab op _ ho) he
    · exact er_at (by decide) hk
    · exact er_ite (er_at (by decide) hk) (er_ok _)
theorem items_er (tab : List (ByteArray × List R2)) (op : Nat) (ho : op ≤ R.length) : ∀ (f k : Nat) (l : List R2), k ≤ R.length → Er R (itemsF R tab op f k l)
  | 0, k, l, _ => er_ok _
  | f + 1, k, l, hk => by
    rw [itemsF]
    refine er_ite (er_ok _) ?_
    split
    · rename_i e he
      exact er_err (item_er tab op k ho hk) he
    · rename_i he
      exact items_er tab op ho f _ _ (item_fwd he).2
theorem class2_er (tab : List (ByteArray × List R2)) (op k : Nat) (ho : op ≤ R.length) (hk : k ≤ R.length) : Er R (class2 R tab op k) := by
  unfold class2
  split
  · rename_i e he
    exact er_err (item_er tab op k ho hk) he
  · rename_i he
    exact items_er tab op ho _ _ _ (item_fwd he).2
theorem turn_er {neg : Bool} {r : PR (List R2 × Nat)} (h : Er R r) : Er R (turnC neg r) := by
  cases r with
  | error e => exact er_err h rfl
  | ok p => exact er_ok _
theorem cls_er (tab : List (ByteArray × List R2)) (op k : Nat) (ho : op ≤ R.length) (hk : k ≤ R.length) : Er R (classF R tab op k) := by
  unfold classF
  split
  · rename_i h
    exact turn_er (class2_er tab op _ ho (lk_is h (by decide)))
  · exact turn_er (class2_er tab op k ho hk)
def ErS (R : List Int) (a : Sub) : Prop := ∀ st, st.k ≤ R.length → Er R (a st)
theorem with_er {a : Sub} (H : ErS R a) (k0 : Nat) (st : St) (f : Fl) (h0 : k0 ≤ R.length) (hk : st.k ≤ R.length) : Er R (withF R a k0 st f) := by
  unfold withF
  split
  · rename_i e he
    exact er_err (H { st with f := f } hk) he
  · exact er_ite (er_ok _) (er_at (by decide) h0)
theorem group_er {a : Sub} (H : ErS R a) (k0 : Nat) (st : St) (n : ByteArray) (h0 : k0 ≤ R.length) (hk : st.k ≤ R.length) : Er R (groupF R a k0 st n) := by
  unfold groupF
  split
  · rename_i e he
    exact er_err (with_er H k0 { st with ns := st.ns ++ [n] } st.f h0 hk) he
  · exact er_ok _
theorem name_er (k0 : Nat) (ns : List ByteArray) (k : Nat) (h0 : k0 ≤ R.length) : Er R (nameF R k0 ns k) := by
  unfold nameF
  refine er_ite ?_ (er_at (by decide) h0)
  exact er_ite (er_ok _) (er_at (by decide) h0)
theorem some_er {r : PR (Nd × St)} (h : Er R r) : Er R (match r with
    | .error e => (.error e : PR (Option Nd × St))
    | .ok (x, s1) => .ok (some x, s1)) := by
  cases r with
  | error e => exact er_err h rfl
  | ok p => exact er_ok _
theorem brack_er {u : Option Sub} (H : ∀ a, u = some a → ErS R a) (st : St) (hk : st.k < R.length) : Er R (brackF R u st) := by
  have hk' := Nat.le_of_lt hk
  unfold brackF
  split
  · exact er_at (by decide) hk'
  · rename_i a
    have HA := H a rfl
    split
    · rename_i e1
      have g1 := lk_is e1 (by decide)
      split
      · split
        · rename_i e he
          exact er_err (name_er _ _ _ hk') he
        · rename_i hn
          exact some_er (group_er HA _ _ _ hk' (name_fwd hn).2)
      · split
        · rename_i e2
          have g2 := lk_is e2 (by decide)
          exact some_er (with_er HA _ _ _ hk' (by simp only; omega))
        · simp only
          split
          · rename_i e3
            have g3 := lk_is e3.2 (by decide)
            exact some_er (with_er HA _ _ _ hk' (by simp only; omega))
          · exact er_ite (er_ok _) (er_at (by decide) hk')
    · exact some_er (group_er HA _ _ _ hk' (by simp only; omega))
theorem stroke_er (tab : List (ByteArray × List R2)) (st : St) (hk : st.k ≤ R.length) : Er R (strokeF R tab st) := by
  unfold strokeF strokeC
  refine er_ite (er_ok _) (er_ite (er_ok _) (er_ite (er_ok _) (er_ite (er_ok _) ?_)))
  split
  · rename_i e he
    exact er_err (esc_er tab _ _ hk) he
  · exact er_ok _
theorem atom_er (tab : List (ByteArray × List R2)) {u : Option Sub} (H : ∀ a, u = some a → ErS R a) (st : St) (hk : st.k < R.length) : Er R (atomF R tab u st) := by
  have hk' := Nat.le_of_lt hk
  unfold atomF atomC
  refine er_ite (brack_er H st hk) (er_ite ?_ (er_ite (stroke_er tab st hk') (er_ite (er_ok _) (er_ite (er_ok _) (er_ite (er_ok _) (er_ok _))))))
  unfold clsF
  split
  · rename_i e he
    exact er_err (cls_er tab _ _ hk' (by omega)) he
  · exact er_ok _
theorem rep_er (x : Nd) (st : St) (hk : st.k ≤ R.length) : Er R (repF R x st) := by
  unfold repF
  split
  · rename_i e he
    exact er_err (quant_er _ _ hk) he
  · exact er_ok _
  · exact er_ok _
theorem piece_er (tab : List (ByteArray × List R2)) {u : Option Sub} (H : ∀ a, u = some a → ErS R a) (HF : ∀ f, u = some f → Fwd R f) (st : St) (hk : st.k < R.length) : Er R (pieceF R tab u st) := by
  unfold pieceF
  split
  · exact er_at (by decide) (Nat.le_of_lt hk)
  · split
    · rename_i e he
      exact er_err (atom_er tab H st hk) he
    · exact er_ok _
    · rename_i he
      split
      · rename_i e he2
        exact er_err (rep_er _ _ (atom_fwd HF hk he).2) he2
      · exact er_ok _
theorem row_er (tab : List (ByteArray × List R2)) {u : Option Sub} (H : ∀ a, u = some a → ErS R a) (HF : ∀ f, u = some f → Fwd R f) : ∀ (f : Nat) (st : St) (l : List Nd), st.k ≤ R.length → Er R (rowF R tab u f st l)
  | 0, st, l, _ => er_ok _
  | f + 1, st, l, hk => by
    rw [rowF]
    split
    · exact er_ok _
    · rename_i he
      have hlt : st.k < R.length := lk_lt (fun e => he (by rw [e]; rfl))
      split
      · rename_i e he
        exact er_err (piece_er tab H HF st hlt) he
      · rename_i hp
        exact row_er tab H HF f _ _ (piece_fwd HF hlt hp).2
      · rename_i hp
        exact row_er tab H HF f _ _ (piece_fwd HF hlt hp).2
theorem cat_er (tab : List (ByteArray × List R2)) {u : Option Sub} (H : ∀ a, u = some a → ErS R a) (HF : ∀ f, u = some f → Fwd R f) : ErS R (catF R tab u) := by
  intro st hk
  unfold catF
  split
  · rename_i e he
    exact er_err (row_er tab H HF _ _ _ hk) he
  · exact er_ok _
theorem alts_er (tab : List (ByteArray × List R2)) {u : Option Sub} (H : ∀ a, u = some a → ErS R a) (HF : ∀ f, u = some f → Fwd R f) : ∀ (f : Nat) (st : St) (l : List Nd), st.k ≤ R.length → Er R (altsF R tab u f st l)
  | 0, st, l, _ => er_ok _
  | f + 1, st, l, hk => by
    rw [altsF]
    split
    · rename_i e
      have hlt := lk_is e (by decide)
      split
      · rename_i e he
        exact er_err (cat_er tab H HF { st with k := st.k + 1 } (by simp only; omega)) he
      · rename_i hp
        exact alts_er tab H HF f _ _ (cat_fwd HF _ _ _ (by simp only; omega) hp).2
    · exact er_ok _
theorem altB_er (tab : List (ByteArray × List R2)) {u : Option Sub} (H : ∀ a, u = some a → ErS R a) (HF : ∀ f, u = some f → Fwd R f) : ErS R (altB R tab u) := by
  intro st hk
  unfold altB
  split
  · rename_i e he
    exact er_err (cat_er tab H HF st hk) he
  · rename_i hp
    exact alts_er tab H HF _ _ _ (cat_fwd HF _ _ _ hk hp).2
theorem altN_er (tab : List (ByteArray × List R2)) : ∀ n, ErS R (altN R tab n)
  | 0 => altB_er tab (u := none) (fun a e => by cases e) (fun a e => by cases e)
  | n + 1 => altB_er tab (u := some _) (fun a e => by cases e; exact altN_er tab n) (fun a e => by cases e; exact altN_fwd R tab n)
theorem pat_er (tab : List (ByteArray × List R2)) (f : Fl) : Er R (patF R tab f) := by
  unfold patF
  split
  · rename_i e he
    exact er_err (altN_er tab 32 _ (Nat.zero_le _)) he
  · rename_i hp
    exact er_ite (er_ok _) (er_at (by decide) (altN_fwd R tab 32 _ _ _ (Nat.zero_le _) hp).2)
end
end Go.Proofs.YtdhhcefmmojcmaaGreatDoor
