/- Texts of this proof, one behind the other: what each says stands ahead of it. -/
import Derived.WalkKit
import Derived.OneCell
import Derived.Deep.QuietTactic
import Derived.Deep.LoopGhost
import Derived.Deep.DeepCutAuto
import Derived.BigQuiet
import Derived.Deep.AppendLies
import Derived.Maps.AppendAt
import Derived.Test.YtnohikoeaepfpaaDoorChecked
import Derived.Laws.BitsLemmas
/- What a call leaves alone, and blocks of two cells; no condition. -/
namespace Go.Proofs.YtnohikoeaepfpaaDoor
open Go.RowKit

theorem hid {p : Prop} (h : p) : Hid p := h

/-- Of the blocks that were there, those outside S are as they were. -/
structure Touch (S : Nat → Prop) (w w' : World) : Prop where
  os : w'.os = w.os
  tape : w'.tape = w.tape
  output : w'.output = w.output
  size : w.heap.size ≤ w'.heap.size
  block : ∀ k, k < w.heap.size → ¬ S k → w'.heap[k]? = w.heap[k]?

theorem Touch.refl (S : Nat → Prop) (w : World) : Touch S w w := ⟨rfl, rfl, rfl, Nat.le_refl _, fun _ _ _ => rfl⟩

theorem Touch.trans {S S' : Nat → Prop} {a b c : World} (h : Touch S a b) (k : Touch S' b c) (hs : ∀ i, i < a.heap.size → S' i → S i) : Touch S a c :=
  ⟨k.os.trans h.os, k.tape.trans h.tape, k.output.trans h.output, Nat.le_trans h.size k.size,
    fun i hi hn => (k.block i (Nat.lt_of_lt_of_le hi h.size) (fun e => hn (hs i hi e))).trans (h.block i hi hn)⟩

theorem Touch.mono {S S' : Nat → Prop} {a b : World} (h : Touch S a b) (hs : ∀ i, i < a.heap.size → S i → S' i) : Touch S' a b :=
  ⟨h.os, h.tape, h.output, h.size, fun i hi hn => h.block i hi (fun e => hn (hs i hi e))⟩

theorem Touch.below {S : Nat → Prop} {a b : World} (h : Touch S a b) (B : Nat) (hB : B ≤ a.heap.size) (hs : ∀ i, S i → B ≤ i) : Below B a b :=
  ⟨h.os, h.tape, h.output, h.size, fun i hi => h.block i (by omega) (fun e => by have := hs i e; omega)⟩

theorem Touch.drew {S : Nat → Prop} {a w : World} (h : Touch S a w) : Touch S a w.drew := ⟨h.os, h.tape, h.output, h.size, h.block⟩

theorem Touch.drewN {S : Nat → Prop} {a w : World} (h : Touch S a w) (n : Nat) : Touch S a (w.drewN n) := ⟨h.os, h.tape, h.output, h.size, h.block⟩

theorem Touch.alloc {S : Nat → Prop} {a w : World} (h : Touch S a w) (o : Obj) : Touch S a (w.alloc o) :=
  h.trans (S' := fun _ => False) ⟨rfl, rfl, rfl, by simp, fun k hk _ => Below.heap_alloc _ _ _ hk⟩ (fun _ _ e => e.elim)

theorem Touch.setCell {S : Nat → Prop} {a w : World} (h : Touch S a w) {p : Addr} (hp : p.block < a.heap.size → S p.block) (u : Value) : Touch S a (w.setCell p u) :=
  h.trans (S' := fun k => k = p.block) ⟨rfl, rfl, rfl, by simp [World.setCell], fun k _ hk => Below.heap_setCell _ _ _ _ hk⟩ (fun i hi e => by subst e; exact hp hi)

theorem Touch.grown {S : Nat → Prop} {a w w' : World} {row : Option Nat} (h : Touch S a w) (hg : w.grownBy w' row) (hr : ∀ k, row = some k → k < a.heap.size → S k) : Touch S a w' :=
  h.trans (S' := fun k => row = some k) ⟨hg.os, hg.tape, hg.output, hg.size, fun k hk hn => hg.block k hk (fun e => hn e.symm)⟩ (fun i hi e => hr i e hi)

theorem Touch.cell {S : Nat → Prop} {w w' : World} (h : Touch S w w') {p : Addr} (hp : p.block < w.heap.size) (hn : ¬ S p.block) : w'.cell? p = w.cell? p := World.cell?_of_block (w := w) (h.block p.block hp hn)

theorem touch_of_below {B : Nat} {w w' : World} (h : Below B w w') : Touch (fun k => B ≤ k) w w' :=
  ⟨h.os, h.tape, h.output, h.size, fun k _ hn => h.block k (by omega)⟩

/-! ### A block of two cells -/
theorem cell_two0 {w : World} {b : Nat} {v u : Value} {t : TypeId} (h : w.heap[b]? = some (.cells #[v, u] t (0, 0))) : w.cell? ⟨b, 0, none⟩ = some v := by simp [World.cell?, h]
theorem cell_two1 {w : World} {b : Nat} {v u : Value} {t : TypeId} (h : w.heap[b]? = some (.cells #[v, u] t (0, 0))) : w.cell? ⟨b, 1, none⟩ = some u := by simp [World.cell?, h]
theorem free_two {w : World} {b i : Nat} {v u : Value} {t : TypeId} (h : w.heap[b]? = some (.cells #[v, u] t (0, 0))) : w.frozen? ⟨b, i, none⟩ = false := by simp [World.frozen?, h]
theorem two_set0 {w : World} {b : Nat} {v u x : Value} {t : TypeId} (h : w.heap[b]? = some (.cells #[v, u] t (0, 0))) : (w.setCell ⟨b, 0, none⟩ x).heap[b]? = some (.cells #[x, u] t (0, 0)) := by
  have hlt := lt_of_block h
  have h' : w.heap[b] = .cells #[v, u] t (0, 0) := by simpa [Array.getElem?_eq_getElem hlt] using h
  show (w.heap.modify b _)[b]? = _
  rw [Array.getElem?_eq_getElem (by simpa using hlt), Array.getElem_modify_self, h']
  rfl
theorem two_set1 {w : World} {b : Nat} {v u x : Value} {t : TypeId} (h : w.heap[b]? = some (.cells #[v, u] t (0, 0))) : (w.setCell ⟨b, 1, none⟩ x).heap[b]? = some (.cells #[v, x] t (0, 0)) := by
  have hlt := lt_of_block h
  have h' : w.heap[b] = .cells #[v, u] t (0, 0) := by simpa [Array.getElem?_eq_getElem hlt] using h
  show (w.heap.modify b _)[b]? = _
  rw [Array.getElem?_eq_getElem (by simpa using hlt), Array.getElem_modify_self, h']
  rfl

theorem block_set {w : World} {b : Nat} {cs : Array Value} {t : TypeId} (h : w.heap[b]? = some (.cells cs t (0, 0))) (i : Nat) (x : Value) : (w.setCell ⟨b, i, none⟩ x).heap[b]? = some (.cells (cs.set! i x) t (0, 0)) := by
  have hlt := lt_of_block h
  have h' : w.heap[b] = .cells cs t (0, 0) := by simpa [Array.getElem?_eq_getElem hlt] using h
  show (w.heap.modify b _)[b]? = _
  rw [Array.getElem?_eq_getElem (by simpa using hlt), Array.getElem_modify_self, h']
  rfl

theorem own_shape {w : World} {base n : Nat} {e : TypeId} {sz : Nat} {v : Value} {xs : List Value} (h : w.ownsRow base e sz v n xs) : ∃ a cap, v = .slice a n cap := by
  rcases h.2 with ⟨rfl, rfl⟩ | ⟨g, cap, cur, rfl, _⟩
  · exact ⟨none, 0, rfl⟩
  · exact ⟨_, cap, rfl⟩

theorem results_c {P : Program} {fn : Func} {p : Tmp} {ty : TypeId} (h : fn.results = #[.cell p ty]) (tmps : Array Value) (w : World) (g : Nat) (et : TypeId) (cs : Array Value) (fr : Nat × Nat) (d : TypeDesc)
    (hp : tmps.getD p undef = .pointer (some ⟨g, 0, none⟩)) (hg : w.heap[g]? = some (.cells cs et fr))
    (hu : P.underlying ty = some d) (hd : (match d with | .struct _ | .array _ _ => true | _ => false) = true) (hi : (P.info? ty).map (·.size) = some cs.size) :
    (results fn tmps).run P w = .ok (.agg cs) w := by
  have hp' : tmps[p]?.getD undef = .pointer (some ⟨g, 0, none⟩) := by simpa using hp
  simp [results, h, hp', asAddr, run_loadVar_row w g et ty cs fr d hg hu hd hi]
end Go.Proofs.YtnohikoeaepfpaaDoor

/- Templates, plain: digits, names, pieces; no condition. -/
namespace Go.Proofs.YtnohikoeaepfpaaDoor
open Go.RowKit

theorem toList_data (s : ByteArray) : s.toList = s.data.toList := by
  have go : ∀ (n i : Nat) (r : List UInt8), s.size - i = n → ByteArray.toList.loop s i r = r.reverse ++ s.data.toList.drop i := by
    intro n
    induction n with
    | zero =>
      intro i r h
      unfold ByteArray.toList.loop
      rw [if_neg (by omega), List.drop_eq_nil_of_le (by rw [Array.length_toList]; show s.size ≤ i; omega), List.append_nil]
    | succ n ih =>
      intro i r h
      have hi : i < s.size := by omega
      have hi' : i < s.data.toList.length := by rw [Array.length_toList]; exact hi
      unfold ByteArray.toList.loop
      rw [if_pos hi, ih (i + 1) _ (by omega), List.drop_eq_getElem_cons hi', List.reverse_cons, List.append_assoc]
      congr 1
      show s.get! i :: _ = _
      congr 1
      show s.data[i]! = _
      rw [getElem!_pos s.data i hi]
      rfl
  unfold ByteArray.toList
  rw [go _ 0 [] rfl]
  rfl
theorem Below.touch {w w' : World} (h : Below w.heap.size w w') : Touch (fun _ => False) w w' := (touch_of_below h).mono (fun i hi hS => by omega)
theorem size_list (s : ByteArray) : s.data.toList.length = s.size := by rw [Array.length_toList]; rfl
theorem byte_at (d : ByteArray) (i : Nat) (h : i < d.size) : d.data.toList.drop i = d[i] :: d.data.toList.drop (i + 1) := by
  rw [List.drop_eq_getElem_cons (by simpa using h)]
  rfl
theorem drop_all (d : ByteArray) : d.data.toList.drop d.size = [] := List.drop_eq_nil_of_le (by simp)
theorem ext_list (s : ByteArray) (a b : Nat) : (s.extract a b).data.toList = (s.data.toList.drop a).take (b - a) := by
  rw [ByteArray.data_extract, Array.toList_extract, List.extract_eq_take_drop]
theorem ext_end (s : ByteArray) (a : Nat) : (s.extract a s.size).data.toList = s.data.toList.drop a := by
  rw [ext_list, List.take_of_length_le (by rw [List.length_drop, size_list]; exact Nat.le_refl _)]

abbrev Bs := List UInt8
def sv (l : Bs) : Value := .string ⟨l.toArray⟩
theorem sv_data (s : ByteArray) : sv s.data.toList = .string s := rfl
def digB (c : UInt8) : Bool := decide (48 ≤ c.toNat ∧ c.toNat ≤ 57)
theorem dig_iff (c : UInt8) : digB c = true ↔ (48 ≤ c.toNat ∧ c.toNat ≤ 57) := by
  unfold digB
  rw [decide_eq_true_eq]
def of10 (n : Nat) (c : UInt8) : Nat := 10 * n + (c.toNat - 48)
def val10 (cs : Bs) : Nat := cs.foldl of10 0
theorem val_snoc (cs : Bs) (c : UInt8) : val10 (cs ++ [c]) = 10 * val10 cs + (c.toNat - 48) := by
  unfold val10
  rw [List.foldl_append]
  rfl
theorem val_bound : ∀ (k : Nat) (cs : Bs), cs.length ≤ k → (∀ c ∈ cs, digB c = true) → val10 cs < 10 ^ k := by
  intro k
  induction k with
  | zero =>
    intro cs h _
    have : cs = [] := List.eq_nil_of_length_eq_zero (by omega)
    rw [this]
    decide
  | succ k ih =>
    intro cs h hd
    rcases List.eq_nil_or_concat cs with rfl | ⟨cs', c, rfl⟩
    · show 0 < 10 ^ (k + 1)
      exact Nat.pow_pos (by decide)
    · rw [List.concat_eq_append] at h hd ⊢
      rw [val_snoc]
      have h1 := ih cs' (by simp at h; omega) (fun x hx => hd x (by simp [hx]))
      have h2 := (dig_iff c).1 (hd c (by simp))
      rw [Nat.pow_succ]
      omega
/-- With how many digits a text begins, k at most. -/
def dg : Nat → Bs → Nat
  | 0, _ => 0
  | _, [] => 0
  | k + 1, c :: cs => if digB c = true then dg k cs + 1 else 0
theorem dg_nil (k : Nat) : dg k [] = 0 := by cases k <;> rfl
theorem dg_le : ∀ (k : Nat) (cs : Bs), dg k cs ≤ k ∧ dg k cs ≤ cs.length
  | 0, cs => ⟨Nat.le_refl _, Nat.zero_le _⟩
  | k + 1, [] => ⟨Nat.zero_le _, Nat.zero_le _⟩
  | k + 1, c :: cs => by
    have := dg_le k cs
    rw [dg]
    split
    · simp only [List.length_cons]; omega
    · exact ⟨Nat.zero_le _, Nat.zero_le _⟩
theorem dg_dig : ∀ (k : Nat) (cs : Bs), ∀ c ∈ cs.take (dg k cs), digB c = true
  | 0, cs => by intro c hc; simp [dg] at hc
  | k + 1, [] => by intro c hc; simp at hc
  | k + 1, x :: cs => by
    rw [dg]
    by_cases h : digB x = true
    · rw [if_pos h, List.take_succ_cons]
      intro c hc
      rcases List.mem_cons.1 hc with rfl | hc
      · exact h
      · exact dg_dig k cs c hc
    · rw [if_neg h]
      intro c hc
      simp at hc
/-- Where a byte stands first. -/
def idxOf (c : UInt8) : Bs → Option Nat
  | [] => none
  | x :: cs => if x = c then some 0 else (idxOf c cs).map (· + 1)
theorem idx_lt {c : UInt8} : ∀ {cs : Bs} {i : Nat}, idxOf c cs = some i → i < cs.length
  | [], _, h => by cases h
  | x :: cs, i, h => by
    rw [idxOf] at h
    split at h
    · cases h; simp
    · obtain ⟨j, hj, rfl⟩ := Option.map_eq_some_iff.1 h
      have := idx_lt hj
      simp only [List.length_cons]
      omega
theorem idx_none {c : UInt8} : ∀ {cs : Bs}, idxOf c cs = none → ∀ x ∈ cs, x ≠ c
  | [], _, x, hx => by simp at hx
  | y :: cs, h, x, hx => by
    rw [idxOf] at h
    split at h
    · cases h
    · rename_i hne
      rcases List.mem_cons.1 hx with rfl | hx
      · exact hne
      · exact idx_none (by simpa using h) x hx
theorem idx_take {c : UInt8} : ∀ {cs : Bs} {i : Nat}, idxOf c cs = some i → ∀ x ∈ cs.take i, x ≠ c
  | [], _, h => by cases h
  | y :: cs, i, h => by
    rw [idxOf] at h
    split at h
    · cases h
      intro x hx
      simp at hx
    · rename_i hne
      obtain ⟨j, hj, rfl⟩ := Option.map_eq_some_iff.1 h
      intro x hx
      rw [List.take_succ_cons] at hx
      rcases List.mem_cons.1 hx with rfl | hx
      · exact hne
      · exact idx_take hj x hx
/-- Where a name stands first. -/
def idxN (x : Bs) : List Bs → Option Nat
  | [] => none
  | y :: l => if y = x then some 0 else (idxN x l).map (· + 1)
theorem idxN_lt {x : Bs} : ∀ {l : List Bs} {i : Nat}, idxN x l = some i → i < l.length
  | [], _, h => by cases h
  | y :: l, i, h => by
    rw [idxN] at h
    split at h
    · cases h; simp
    · obtain ⟨j, hj, rfl⟩ := Option.map_eq_some_iff.1 h
      have := idxN_lt hj
      simp only [List.length_cons]
      omega
def calledP (ns : List Bs) (x : Bs) : Option Nat := if x = [] then none else if dg 4 x = x.length then some (val10 x) else idxN x ns
/-- The group that a sign tells, of what stands behind it; and how many bytes tell it. -/
def signP (ns : List Bs) : Bs → Option (Nat × Nat)
  | [] => none
  | c :: q => if c = 123 then (match idxOf 125 q with | none => none | some k => (calledP ns (q.take k)).map fun g => (g, k + 3)) else if dg 4 (c :: q) = 0 then none else some (val10 ((c :: q).take (dg 4 (c :: q))), 1 + dg 4 (c :: q))
theorem sign_size {ns : List Bs} {r : Bs} {g n : Nat} (h : signP ns r = some (g, n)) : 1 ≤ n ∧ n ≤ r.length + 1 := by
  cases r with
  | nil => cases h
  | cons c q =>
    rw [signP] at h
    split at h
    · cases hk : idxOf 125 q with
      | none => rw [hk] at h; cases h
      | some k =>
        rw [hk] at h
        obtain ⟨g', _, e⟩ := Option.map_eq_some_iff.1 h
        have := idx_lt hk
        cases e
        simp only [List.length_cons]
        omega
    · split at h
      · cases h
      · have := dg_le 4 (c :: q)
        cases h
        omega

/-- What a text begins with. -/
inductive Tk
  | text (t : Bs) (n : Nat)
  | grp (g n : Nat)
  | bad
def sgTk (ns : List Bs) (r : Bs) : Tk := match signP ns r with
  | some (g, n) => if g < ns.length then .grp g n else .bad
  | none => .bad
/-- The first byte, or sign. -/
def tk1 (ns : List Bs) : Bs → Tk
  | [] => .bad
  | c :: r => if c = 36 then (if r[0]? = some 36 then .text [36] 2 else sgTk ns r) else .text [c] 1
structure Pc where
  t : Bs
  g : Int
/-- Pieces, and a text that isn't ended yet. -/
def nm (o : List Pc) (p : Bs) : List Pc := if p = [] then o else o ++ [⟨p, -1⟩]
def goR (ns : List Bs) : Nat → List Pc → Bs → Bs → Nat → List Pc ⊕ Nat
  | _, o, p, [], _ => .inl (nm o p)
  | 0, _, _, _ :: _, k => .inr k
  | f + 1, o, p, c :: r, k => match tk1 ns (c :: r) with
    | .text t n => goR ns f o (p ++ t) ((c :: r).drop n) (k + n)
    | .grp g n => goR ns f (nm o p ++ [⟨[], g⟩]) [] ((c :: r).drop n) (k + n)
    | .bad => .inr k
theorem tk1_size {ns : List Bs} {cs : Bs} : (∀ t n, tk1 ns cs = .text t n → 1 ≤ n ∧ n ≤ cs.length ∧ t ≠ []) ∧ ∀ g n, tk1 ns cs = .grp g n → 1 ≤ n ∧ n ≤ cs.length := by
  cases cs with
  | nil => exact ⟨fun t n h => (by cases h), fun g n h => by cases h⟩
  | cons c r =>
    rw [tk1]
    split
    · split
      · rename_i h36
        refine ⟨fun t n h => ?_, fun g n h => by cases h⟩
        cases h
        have : 0 < r.length := by
          cases r with
          | nil => cases h36
          | cons _ _ => simp
        simp only [List.length_cons]
        exact ⟨by omega, by omega, by simp⟩
      · unfold sgTk
        cases hs : signP ns r with
        | none => exact ⟨fun t n h => (by cases h), fun g n h => (by cases h)⟩
        | some x =>
          obtain ⟨g0, n0⟩ := x
          have hb := sign_size hs
          dsimp only
          split
          · refine ⟨fun t n h => (by cases h), fun g n h => ?_⟩
            cases h
            simp only [List.length_cons]
            omega
          · exact ⟨fun t n h => (by cases h), fun g n h => (by cases h)⟩
    · refine ⟨fun t n h => ?_, fun g n h => by cases h⟩
      cases h
      simp only [List.length_cons]
      exact ⟨by omega, by omega, by simp⟩
theorem goR_nil (ns : List Bs) (f : Nat) (o : List Pc) (p : Bs) (k : Nat) : goR ns f o p [] k = .inl (nm o p) := by cases f <;> rfl
theorem goR_fuel (ns : List Bs) : ∀ (f f' : Nat) (o : List Pc) (p cs : Bs) (k : Nat), cs.length ≤ f → cs.length ≤ f' → goR ns f o p cs k = goR ns f' o p cs k := by
  intro f
  induction f with
  | zero =>
    intro f' o p cs k h h'
    obtain rfl : cs = [] := List.eq_nil_of_length_eq_zero (by omega)
    rw [goR_nil, goR_nil]
  | succ f ih =>
    intro f' o p cs k h h'
    cases cs with
    | nil => rw [goR_nil, goR_nil]
    | cons c r =>
      cases f' with
      | zero => simp at h'
      | succ f' =>
        have hz := tk1_size (ns := ns) (cs := c :: r)
        rw [goR, goR]
        cases ht : tk1 ns (c :: r) with
        | text t n =>
          have := hz.1 t n ht
          exact ih f' _ _ _ _ (by rw [List.length_drop]; omega) (by rw [List.length_drop]; omega)
        | grp g n =>
          have := hz.2 g n ht
          exact ih f' _ _ _ _ (by rw [List.length_drop]; omega) (by rw [List.length_drop]; omega)
        | bad => rfl
/-- What is told from here on: the pieces, or the place of what is none. -/
def G (ns : List Bs) (o : List Pc) (p cs : Bs) (k : Nat) : List Pc ⊕ Nat := goR ns cs.length o p cs k
theorem G_nil (ns : List Bs) (o : List Pc) (p : Bs) (k : Nat) : G ns o p [] k = .inl (nm o p) := rfl
theorem G_text {ns : List Bs} {cs t : Bs} {n : Nat} (h : tk1 ns cs = .text t n) (o : List Pc) (p : Bs) (k : Nat) : G ns o p cs k = G ns o (p ++ t) (cs.drop n) (k + n) := by
  cases cs with
  | nil => cases h
  | cons c r =>
    have hz := (tk1_size (ns := ns) (cs := c :: r)).1 t n h
    unfold G
    rw [List.length_cons, goR, h]
    exact goR_fuel ns _ _ _ _ _ _ (by rw [List.length_drop]; simp only [List.length_cons]; omega) (Nat.le_refl _)
theorem G_grp {ns : List Bs} {cs : Bs} {g n : Nat} (h : tk1 ns cs = .grp g n) (o : List Pc) (p : Bs) (k : Nat) : G ns o p cs k = G ns (nm o p ++ [⟨[], g⟩]) [] (cs.drop n) (k + n) := by
  cases cs with
  | nil => cases h
  | cons c r =>
    have hz := (tk1_size (ns := ns) (cs := c :: r)).2 g n h
    unfold G
    rw [List.length_cons, goR, h]
    exact goR_fuel ns _ _ _ _ _ _ (by rw [List.length_drop]; simp only [List.length_cons]; omega) (Nat.le_refl _)
theorem G_bad {ns : List Bs} {cs : Bs} (h : tk1 ns cs = .bad) (hne : cs ≠ []) (o : List Pc) (p : Bs) (k : Nat) : G ns o p cs k = .inr k := by
  cases cs with
  | nil => exact absurd rfl hne
  | cons c r =>
    unfold G
    rw [List.length_cons, goR, h]
theorem G_chunk (ns : List Bs) : ∀ (t : Bs) (o : List Pc) (p r : Bs) (k : Nat), (∀ x ∈ t, x ≠ 36) → G ns o p (t ++ r) k = G ns o (p ++ t) r (k + t.length)
  | [], o, p, r, k, _ => by simp
  | c :: t, o, p, r, k, h => by
    have hc : c ≠ 36 := h c (by simp)
    have h1 : tk1 ns (c :: (t ++ r)) = .text [c] 1 := by rw [tk1, if_neg hc]
    rw [List.cons_append, G_text h1]
    show G ns o (p ++ [c]) (t ++ r) (k + 1) = _
    rw [G_chunk ns t o (p ++ [c]) r (k + 1) (fun x hx => h x (by simp [hx]))]
    simp only [List.append_assoc, List.cons_append, List.nil_append, List.length_cons]
    congr 1
    omega
/-- What a text begins with, as far as it goes. -/
def firstP (ns : List Bs) (cs : Bs) : Tk := match idxOf 36 cs with
  | none => .text cs cs.length
  | some (i + 1) => .text (cs.take (i + 1)) (i + 1)
  | some 0 => if cs[1]? = some 36 then .text [36] 2 else sgTk ns (cs.drop 1)
theorem idx_zero {c : UInt8} {cs : Bs} (h : idxOf c cs = some 0) : ∃ r, cs = c :: r := by
  cases cs with
  | nil => cases h
  | cons x r =>
    rw [idxOf] at h
    split at h
    · rename_i e; exact ⟨r, by rw [e]⟩
    · obtain ⟨j, _, e⟩ := Option.map_eq_some_iff.1 h
      cases e
theorem first_zero {ns : List Bs} {cs : Bs} (h : idxOf 36 cs = some 0) : firstP ns cs = tk1 ns cs := by
  obtain ⟨r, rfl⟩ := idx_zero h
  unfold firstP
  rw [h, tk1, if_pos rfl]
  rfl
theorem G_first (ns : List Bs) (cs : Bs) (hne : cs ≠ []) (o : List Pc) (p : Bs) (k : Nat) : G ns o p cs k = match firstP ns cs with
    | .text t n => G ns o (p ++ t) (cs.drop n) (k + n)
    | .grp g n => G ns (nm o p ++ [⟨[], g⟩]) [] (cs.drop n) (k + n)
    | .bad => .inr k := by
  cases hi : idxOf 36 cs with
  | none =>
    unfold firstP
    rw [hi]
    dsimp only
    have := G_chunk ns cs o p [] k (idx_none hi)
    rw [List.append_nil] at this
    rw [this, List.drop_length]
  | some i =>
    cases i with
    | zero =>
      rw [first_zero hi]
      cases ht : tk1 ns cs with
      | text t n => exact G_text ht o p k
      | grp g n => exact G_grp ht o p k
      | bad => exact G_bad ht hne o p k
    | succ i =>
      unfold firstP
      rw [hi]
      dsimp only
      have hlt := idx_lt hi
      have := G_chunk ns (cs.take (i + 1)) o p (cs.drop (i + 1)) k (idx_take hi)
      rw [List.take_append_drop, List.length_take, Nat.min_eq_left (by omega)] at this
      exact this
theorem first_size {ns : List Bs} {cs : Bs} (hne : cs ≠ []) : (∀ t n, firstP ns cs = .text t n → 1 ≤ n ∧ n ≤ cs.length ∧ t ≠ [] ∧ t.length ≤ cs.length) ∧ ∀ g n, firstP ns cs = .grp g n → 1 ≤ n ∧ n ≤ cs.length := by
  have hl : 0 < cs.length := List.length_pos_iff.2 hne
  cases hi : idxOf 36 cs with
  | none =>
    unfold firstP
    rw [hi]
    refine ⟨fun t n h => ?_, fun g n h => by cases h⟩
    cases h
    exact ⟨hl, Nat.le_refl _, hne, Nat.le_refl _⟩
  | some i =>
    cases i with
    | zero =>
      rw [first_zero hi]
      have hz := tk1_size (ns := ns) (cs := cs)
      refine ⟨fun t n h => ?_, hz.2⟩
      obtain ⟨a, b, c⟩ := hz.1 t n h
      refine ⟨a, b, c, ?_⟩
      obtain ⟨r, rfl⟩ := idx_zero hi
      rw [tk1, if_pos rfl] at h
      split at h
      · cases h; simp
      · unfold sgTk at h
        split at h
        · split at h <;> cases h
        · cases h
    | succ i =>
      have hlt := idx_lt hi
      unfold firstP
      rw [hi]
      refine ⟨fun t n h => ?_, fun g n h => by cases h⟩
      cases h
      refine ⟨by omega, by omega, fun e => ?_, by rw [List.length_take]; omega⟩
      have := congrArg List.length e
      rw [List.length_take, List.length_nil] at this
      omega
end Go.Proofs.YtnohikoeaepfpaaDoor
