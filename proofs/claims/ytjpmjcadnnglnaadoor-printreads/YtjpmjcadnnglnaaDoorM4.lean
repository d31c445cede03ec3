/- Texts of this proof, one behind the other: what each says stands ahead of it. -/
import Derived.Test.YtjpmjcadnnglnaaDoorM3
import Derived.Recover
/- What catches a parser's throw: the deferred closure of whole, of a frame that returns and of one that panics; no condition. -/
namespace Go.Proofs.YtjpmjcadnnglnaaDoor
open Go.RowKit

set_option maxRecDepth 100000 in
set_option maxHeartbeats 4000000 in
theorem catch_idle (p q : Addr) (w : World) :
    CallsD Tryd.prog 23 #[.pointer (some p), .pointer (some q)] .returning w fun e u' w' => e = .returned (.tuple #[]) ∧ u' = .returning ∧ w' = w := by
  refine callsD_of_wpS Tryd.func23 rfl fun c₀ cs hu => ?_
  apply wpS_seq
  apply wpS_region
  simp [wpOpsS, go_sem, recoverD, hu, Tryd.ntmps23, Exit.thenS]
  refine wpS_of_wp ?_
  simp [Array.replicate]
  go_wp2
  cases c₀
  simp_all [bodyPostS, results, Tryd.results23]
theorem jtwo_new {w : World} (a b : Value) (t : TypeId) : (w.alloc (.cells #[a, b] t)).heap[w.heap.size]? = some (.cells #[a, b] t (0, 0)) := by
  show (w.heap.push _)[_]? = _
  simp
theorem jtwo_set {w : World} {q : Nat} {a b : Value} {ty : TypeId} (h : w.heap[q]? = some (.cells #[a, b] ty (0, 0))) (x y : Value) : ((w.setCell ⟨q, 0, none⟩ x).setCell ⟨q, 1, none⟩ y).heap[q]? = some (.cells #[x, y] ty (0, 0)) :=
  block_set (block_set h 0 x) 1 y
set_option maxRecDepth 100000 in
set_option maxHeartbeats 4000000 in
theorem catch_thrown (p q : Nat) (c t : Nat) (older : List PanicEntry) (w : World) (v0 v1 v2 v3 : Value) (x0 x1 : Value) (hp : w.heap[p]? = some (.cells #[v0, v1, v2, v3] 36 (0, 0))) (hq : w.heap[q]? = some (.cells #[x0, x1] 39 (0, 0))) (hpq : p ≠ q) :
    CallsD Tryd.prog 23 #[.pointer (some ⟨p, 0, none⟩), .pointer (some ⟨q, 0, none⟩)] (.panicking ({ v := .iface 39 (.agg #[.int .i64 (c : Nat), .int .i64 (t : Nat)]), recovered := false } :: older)) w fun e u' w' =>
      e = .returned (.tuple #[]) ∧ u' = .panicking ({ v := .iface 39 (.agg #[.int .i64 (c : Nat), .int .i64 (t : Nat)]), recovered := true } :: older) ∧
        w'.heap[p]? = some (.cells #[.int .i64 0, .string ⟨#[]⟩, .slice none 0 0, .slice none 0 0] 36 (0, 0)) ∧ w'.heap[q]? = some (.cells #[.int .i64 (c : Nat), .int .i64 (t : Nat)] 39 (0, 0)) ∧ Touch (fun k => k = p ∨ k = q) w w' := by
  have hta : ∀ (v : Value) (w : World), (Instr.typeAssert (.iface 39 v) 20 39 true).run Tryd.prog w = .ok (.tuple #[v, .bool true]) w := fun _ _ => rfl
  refine callsD_of_wpS Tryd.func23 rfl fun c₀ cs hu => ?_
  apply wpS_seq
  apply wpS_region
  simp [wpOpsS, go_sem, recoverD, hu, Tryd.ntmps23, Exit.thenS]
  refine wpS_of_wp ?_
  simp [Array.replicate]
  have T0 := hid ((Touch.refl (fun _ => False) w).alloc (.cells #[.int .i64 (c : Nat), .int .i64 (t : Nat)] 39))
  have B0 := hid (jtwo_new (w := w) (.int .i64 (c : Nat)) (.int .i64 (t : Nat)) 39)
  have P0 := hid ((T0.out.block p (lt_of_block hp) id).trans hp)
  have Q0 := hid ((T0.out.block q (lt_of_block hq) id).trans hq)
  have HL := hid (show p < w.heap.size ∧ q < w.heap.size from ⟨lt_of_block hp, lt_of_block hq⟩)
  clear hp hq
  go_upto_region 5 with fail
  have n1 : ¬ p = w.heap.size := by have := HL.out; omega
  have n2 : ¬ q = w.heap.size := by have := HL.out; omega
  have HN := hid (show w.heap.size ≤ w.heap.size from Nat.le_refl _)
  generalize w.alloc (.cells #[.int .i64 (c : Nat), .int .i64 (t : Nat)] 39) = w1 at *
  obtain ⟨r, hr⟩ : ∃ r, r = w.heap.size := ⟨_, rfl⟩
  rw [← hr] at n1 n2 B0 ⊢
  clear HL HN hr
  have b0 := B0.out
  have p0 := P0.out
  have q0 := Q0.out
  have k0 : w1.cell? ⟨r, 0, none⟩ = some (.int .i64 (c : Nat)) := by simp [World.cell?, b0]
  have k1 : w1.cell? ⟨r, 1, none⟩ = some (.int .i64 (t : Nat)) := by simp [World.cell?, b0]
  have a0 : w1.cell? ⟨p, 0, none⟩ = some v0 := by simp [World.cell?, p0]
  have a1 : w1.cell? ⟨p, 1, none⟩ = some v1 := by simp [World.cell?, p0]
  have a2 : w1.cell? ⟨p, 2, none⟩ = some v2 := by simp [World.cell?, p0]
  have a3 : w1.cell? ⟨p, 3, none⟩ = some v3 := by simp [World.cell?, p0]
  have e0 : w1.frozen? ⟨p, 0, none⟩ = false := by simp [World.frozen?, p0]
  have e1 : w1.frozen? ⟨p, 1, none⟩ = false := by simp [World.frozen?, p0]
  have e2 : w1.frozen? ⟨p, 2, none⟩ = false := by simp [World.frozen?, p0]
  have e3 : w1.frozen? ⟨p, 3, none⟩ = false := by simp [World.frozen?, p0]
  have g0 : w1.cell? ⟨q, 0, none⟩ = some x0 := by simp [World.cell?, q0]
  have g1 : w1.cell? ⟨q, 1, none⟩ = some x1 := by simp [World.cell?, q0]
  have f0 : w1.frozen? ⟨q, 0, none⟩ = false := by simp [World.frozen?, q0]
  have f1 : w1.frozen? ⟨q, 1, none⟩ = false := by simp [World.frozen?, q0]
  clear b0 p0 q0
  have n3 : ¬ r = p := fun e => n1 e.symm
  have n4 : ¬ r = q := fun e => n2 e.symm
  have n5 : ¬ p = q := hpq
  have n6 : ¬ q = p := fun e => hpq e.symm
  go_region
  have PN := jfour_set P0.out (.int .i64 0) (.string ⟨#[]⟩) (.slice none 0 0) (.slice none 0 0)
  have QN : ((((w1.setCell ⟨p, 0, none⟩ (.int .i64 0)).setCell ⟨p, 1, none⟩ (.string ⟨#[]⟩)).setCell ⟨p, 2, none⟩ (.slice none 0 0)).setCell ⟨p, 3, none⟩ (.slice none 0 0)).heap[q]? = some (.cells #[x0, x1] 39 (0, 0)) := by
    rw [Below.heap_setCell _ _ _ _ n6, Below.heap_setCell _ _ _ _ n6, Below.heap_setCell _ _ _ _ n6, Below.heap_setCell _ _ _ _ n6]
    exact Q0.out
  have T1 : Touch (fun k => k = p ∨ k = q) w w1 := T0.out.mono (fun _ _ e => e.elim)
  have T2 := ((((((T1.setCell (p := ⟨p, 0, none⟩) (fun _ => .inl rfl) (.int .i64 0)).setCell (p := ⟨p, 1, none⟩) (fun _ => .inl rfl) (.string ⟨#[]⟩)).setCell (p := ⟨p, 2, none⟩) (fun _ => .inl rfl) (.slice none 0 0)).setCell (p := ⟨p, 3, none⟩) (fun _ => .inl rfl) (.slice none 0 0)).setCell (p := ⟨q, 0, none⟩) (fun _ => .inr rfl) (.int .i64 (c : Nat))).setCell (p := ⟨q, 1, none⟩) (fun _ => .inr rfl) (.int .i64 (t : Nat))).drewN 1
  obtain ⟨w5, h5⟩ : ∃ w5, w5 = (((w1.setCell ⟨p, 0, none⟩ (.int .i64 0)).setCell ⟨p, 1, none⟩ (.string ⟨#[]⟩)).setCell ⟨p, 2, none⟩ (.slice none 0 0)).setCell ⟨p, 3, none⟩ (.slice none 0 0) := ⟨_, rfl⟩
  rw [← h5] at PN QN T2 ⊢
  have PM : ((w5.setCell ⟨q, 0, none⟩ (.int .i64 (c : Nat))).setCell ⟨q, 1, none⟩ (.int .i64 (t : Nat))).heap[p]? = some (.cells #[.int .i64 0, .string ⟨#[]⟩, .slice none 0 0, .slice none 0 0] 36 (0, 0)) := by
    rw [Below.heap_setCell _ _ _ _ n5, Below.heap_setCell _ _ _ _ n5]
    exact PN
  have QM := jtwo_set QN (.int .i64 (c : Nat)) (.int .i64 (t : Nat))
  clear h5 PN QN T1 T0 P0 Q0 B0 k0 k1 a0 a1 a2 a3 e0 e1 e2 e3 g0 g1 f0 f1 hta
  generalize (w5.setCell ⟨q, 0, none⟩ (.int .i64 (c : Nat))).setCell ⟨q, 1, none⟩ (.int .i64 (t : Nat)) = w6 at *
  refine ⟨rfl, _, rfl, .tuple #[], ?_, rfl, rfl, PM, QM, T2⟩
  simp [results, Tryd.results23, go_sem]
end Go.Proofs.YtjpmjcadnnglnaaDoor

/- The other takers: pairs of bytes, and the rest of a text; conditions: those told. -/
namespace Go.Proofs.YtjpmjcadnnglnaaDoor
open Go.RowKit

set_option maxRecDepth 100000 in
theorem isHalf_any (r : Int) (w : World) : Calls Tryd.prog 53 #[.int .i64 r] w fun e w' => e = .returned (.bool (decide (55296 ≤ r) && decide (r < 57344))) ∧ w = w' := by
  by_cases h1 : 55296 ≤ r
  · by_cases h2 : r < 57344
    · go_enter Tryd.func53, Tryd.ntmps53
      go_wp2
      go_ret
      exact ⟨by simp [h1, h2], rfl⟩
    · have k2 : decide (r < 57344) = false := decide_eq_false h2
      go_enter Tryd.func53, Tryd.ntmps53
      go_wp2
      go_ret
      exact ⟨by simp, rfl⟩
  · have k1 : decide (55296 ≤ r) = false := decide_eq_false h1
    go_enter Tryd.func53, Tryd.ntmps53
    go_wp2
    go_ret
    exact ⟨by simp, rfl⟩

/-- A number by its two halves, or what is wrong. -/
def tk16 (U : Nat → Int) (i : Nat) : Int × Nat :=
  if U i = -1 then (-1, 1)
  else if ¬ (55296 ≤ U i ∧ U i < 57344) then (U i, 2)
  else if 56320 ≤ U i ∨ U (i + 2) < 56320 ∨ 57344 ≤ U (i + 2) then (-1, 2)
  else (65536 + (U i - 55296) * 1024 + U (i + 2) - 56320, 4)

set_option maxRecDepth 100000 in
set_option maxHeartbeats 4000000 in
theorem pair_any (U : Nat → Int) (bd bl bh i : Nat) (w : World) (hi : i ≤ 140737488351232) (hU : ∀ j, -1 ≤ U j ∧ U j ≤ 65535)
    (hc : ∀ wq, Touch (fun _ => False) w wq → ∀ j : Nat, j ≤ 140737488351240 → Calls Tryd.prog 52 (#[.int .i64 j] ++ #[.pointer (some ⟨bd, 0, none⟩), .pointer (some ⟨bl, 0, none⟩), .pointer (some ⟨bh, 0, none⟩)]) wq fun e w' => e = .returned (.int .i64 (U j)) ∧ Touch (fun _ => False) wq w') :
    Calls Tryd.prog 40 #[.func (.func 52) #[] #[.pointer (some ⟨bd, 0, none⟩), .pointer (some ⟨bl, 0, none⟩), .pointer (some ⟨bh, 0, none⟩)], .int .i64 i] w fun e w' => e = .returned (.tuple #[.int .i64 (tk16 U i).1, .int .i64 ((tk16 U i).2 : Nat)]) ∧ Touch (fun _ => False) w w' := by
  have HC := hid hc
  have K1 := hid (hc w (Touch.refl _ w) i (by omega))
  have hu := hU i
  have hv := hU (i + 2)
  obtain ⟨R, hR⟩ : ∃ R, tk16 U i = R := ⟨_, rfl⟩
  have HR := hid hR
  unfold tk16 at hR
  rw [HR.out]
  clear hc HR
  obtain ⟨j, hj⟩ : ∃ j, j = i + 2 := ⟨_, rfl⟩
  have hji : (j : Int) = (i : Int) + 2 := by omega
  have hjb : j ≤ 140737488351240 := by omega
  rw [← hj] at hR hv
  clear hj
  obtain ⟨u, hu0⟩ : ∃ u, U i = u := ⟨_, rfl⟩
  rw [hu0] at hR hu K1
  have KV := hid (fun wq tq => HC.out wq tq j hjb)
  obtain ⟨v, hv0⟩ : ∃ v, U j = v := ⟨_, rfl⟩
  rw [hv0] at hR hv KV
  rw [hji] at KV
  clear hu0 hv0 HC hU hji hjb
  have HR := hid hR
  clear hR
  go_enter Tryd.func40, Tryd.ntmps40
  go_wp2_with fail
  refine K1.out.mono ?_
  rintro e w1 ⟨rfl, tc⟩
  have T := hid tc
  clear tc K1
  by_cases h1 : u = -1
  · subst h1
    have HE := hid (show R = (-1, 1) by rw [← HR.out, if_pos rfl])
    go_wp2
    go_ret2
    exact ⟨by rw [HE.out]; rfl, T.out⟩
  have hd1 : decide (u = -1) = false := decide_eq_false h1
  have hd1' : (u == -1) = false := by simpa using h1
  rw [if_neg h1] at HR
  have KH := hid (isHalf_any u w1)
  by_cases h2 : 55296 ≤ u ∧ u < 57344
  · rw [show (decide (55296 ≤ u) && decide (u < 57344)) = true by simp [h2]] at KH
    rw [if_neg (fun k => k h2)] at HR
    obtain ⟨h2a, h2b⟩ := h2
    go_wp2_with fail
    refine KH.out.mono ?_
    rintro e w1 ⟨rfl, rfl⟩
    go_wp2_with fail
    refine (KV.out w1 T.out).mono ?_
    rintro e w2 ⟨rfl, tc⟩
    replace T := hid (T.out.trans tc (fun _ _ e => e))
    clear tc KV KH
    by_cases h3 : 56320 ≤ u
    · have HE := hid (show R = (-1, 2) by rw [← HR.out, if_pos (.inl h3)])
      go_wp2
      go_ret2
      exact ⟨by rw [HE.out]; rfl, T.out⟩
    · by_cases h4 : v < 56320
      · have HE := hid (show R = (-1, 2) by rw [← HR.out, if_pos (.inr (.inl h4))])
        go_wp2
        go_ret2
        exact ⟨by rw [HE.out]; rfl, T.out⟩
      · by_cases h5 : 57344 ≤ v
        · have HE := hid (show R = (-1, 2) by rw [← HR.out, if_pos (.inr (.inr h5))])
          go_wp2
          go_ret2
          exact ⟨by rw [HE.out]; rfl, T.out⟩
        · have HE := hid (show R = (65536 + (u - 55296) * 1024 + v - 56320, 4) by rw [← HR.out, if_neg (by omega)])
          go_wp2
          go_ret2
          exact ⟨by rw [HE.out]; rfl, T.out⟩
  · rw [show (decide (55296 ≤ u) && decide (u < 57344)) = false by simp; omega] at KH
    have HE := hid (show R = (u, 2) by rw [← HR.out, if_pos h2])
    clear h2
    go_wp2_with fail
    refine KH.out.mono ?_
    rintro e w1 ⟨rfl, rfl⟩
    go_wp2
    go_ret2
    exact ⟨by rw [HE.out]; rfl, T.out⟩

set_option maxRecDepth 100000 in
theorem take_rest (b i : Nat) (s : ByteArray) (w : World) (ht : Tabs w) (hd : w.cell? ⟨b, 0, none⟩ = some (.string s)) (hi : i < s.size) (hs : s.size ≤ 140737488351232) :
    Calls Tryd.prog 42 (#[.int .i64 i] ++ #[.pointer (some ⟨b, 0, none⟩)]) w fun e w' => e = .returned (.tuple #[.int .i64 (tk8 (s.extract i s.size)).1, .int .i64 ((tk8 (s.extract i s.size)).2 : Nat)]) ∧ Touch (fun _ => False) w w' := by
  have hsz : (s.extract i s.size).size = s.size - i := by rw [ByteArray.size_extract]; omega
  have K := hid (take8_any (s.extract i s.size) (by omega) (by omega) w ht)
  have hiI : (i : Int) ≤ (s.size : Int) := by omega
  generalize tk8 (s.extract i s.size) = R at *
  clear ht hsz
  go_enter Tryd.func42, Tryd.ntmps42
  go_wp2_with fail
  refine K.out.mono ?_
  rintro e w1 ⟨rfl, tc⟩
  have T := hid tc
  clear tc K
  go_wp2
  go_ret2
  exact ⟨rfl, T.out⟩

set_option maxRecDepth 100000 in
theorem take_pair (U : Nat → Int) (b bd bl bh i : Nat) (w : World) (hi : i ≤ 140737488351232) (hU : ∀ j, -1 ≤ U j ∧ U j ≤ 65535) (hb : w.cell? ⟨b, 0, none⟩ = some (.func (.func 52) #[] #[.pointer (some ⟨bd, 0, none⟩), .pointer (some ⟨bl, 0, none⟩), .pointer (some ⟨bh, 0, none⟩)]))
    (hc : ∀ wq, Touch (fun _ => False) w wq → ∀ j : Nat, j ≤ 140737488351240 → Calls Tryd.prog 52 (#[.int .i64 j] ++ #[.pointer (some ⟨bd, 0, none⟩), .pointer (some ⟨bl, 0, none⟩), .pointer (some ⟨bh, 0, none⟩)]) wq fun e w' => e = .returned (.int .i64 (U j)) ∧ Touch (fun _ => False) wq w') :
    Calls Tryd.prog 39 (#[.int .i64 i] ++ #[.pointer (some ⟨b, 0, none⟩)]) w fun e w' => e = .returned (.tuple #[.int .i64 (tk16 U i).1, .int .i64 ((tk16 U i).2 : Nat)]) ∧ Touch (fun _ => False) w w' := by
  have K := hid (pair_any U bd bl bh i w hi hU hc)
  generalize tk16 U i = R at *
  clear hc hU
  go_enter Tryd.func39, Tryd.ntmps39
  go_wp2_with fail
  refine K.out.mono ?_
  rintro e w1 ⟨rfl, tc⟩
  have T := hid tc
  clear tc K
  go_wp2
  go_ret2
  exact ⟨rfl, T.out⟩
end Go.Proofs.YtjpmjcadnnglnaaDoor

/- taker: what it hands back, and what that answers; conditions: those told. -/
namespace Go.Proofs.YtjpmjcadnnglnaaDoor
open Go.RowKit

/-- The number in two bytes, the lower one first, or the higher one. -/
def unitL (s : ByteArray) (i : Nat) : Int := if s.size < i + 2 then -1 else (byN s i + 256 * byN s (i + 1) : Nat)
def unitB (s : ByteArray) (i : Nat) : Int := if s.size < i + 2 then -1 else (byN s (i + 1) + 256 * byN s i : Nat)
theorem unitL_in (s : ByteArray) (i : Nat) : -1 ≤ unitL s i ∧ unitL s i ≤ 65535 := by
  have := by_lt s i
  have := by_lt s (i + 1)
  unfold unitL
  split <;> omega
theorem unitB_in (s : ByteArray) (i : Nat) : -1 ≤ unitB s i ∧ unitB s i ≤ 65535 := by
  have := by_lt s i
  have := by_lt s (i + 1)
  unfold unitB
  split <;> omega
/-- The scalar at a place and how many bytes it has, by coding. -/
def tkAt (s : ByteArray) (c i : Nat) : Int × Nat := if c = 2 then tk16 (unitL s) i else if c = 3 then tk16 (unitB s) i else if c = 4 then ((byN s i : Int), 1) else tk8 (s.extract i s.size)

/-- A cell of its own, from such a block on. -/
structure Own1 (lo : Nat) (w : World) (b : Nat) (v : Value) : Prop where
  lt : b < w.heap.size
  ge : lo ≤ b
  cell : w.cell? ⟨b, 0, none⟩ = some v
theorem Own1.kept {lo : Nat} {w w' : World} {b : Nat} {v : Value} {S : Nat → Prop} (h : Own1 lo w b v) (t : Touch S w w') (hs : ¬ S b) : Own1 lo w' b v := ⟨Nat.lt_of_lt_of_le h.lt t.size, h.ge, (t.cell (p := ⟨b, 0, none⟩) h.lt hs).trans h.cell⟩
theorem Own1.made {w : World} {v : Value} {t : TypeId} {n lo : Nat} (h : n = w.heap.size) (hl : lo ≤ n) : Own1 lo (w.alloc (.cells #[v] t)) n v := by
  subst h
  exact ⟨by simp, hl, by unfold World.cell?; rw [block_new]; rfl⟩
theorem Own1.alloc {lo : Nat} {w : World} {b : Nat} {v : Value} (h : Own1 lo w b v) (o : Obj) : Own1 lo (w.alloc o) b v := h.kept ((Touch.refl (fun _ => False) w).alloc o) id
theorem Own1.low {lo lo' : Nat} {w : World} {b : Nat} {v : Value} (h : Own1 lo w b v) (hl : lo' ≤ lo) : Own1 lo' w b v := ⟨h.lt, Nat.le_trans hl h.ge, h.cell⟩
theorem run_store_func (P : Program) (w : World) (a : Addr) (m : Mode) (f : Fn) (t c : Array Value) : (store a (.func f t c) m).run P w = stored P w a (.func f t c) m := run_store P w a _ m rfl
attribute [local go_sem] run_store_func
/-- What units hands back. -/
def UnitOk (lo : Nat) (s : ByteArray) (c : Nat) (e : Ending) (w' : World) : Prop := ∃ bd bl bh, e = .returned (.func (.func 52) #[] #[.pointer (some ⟨bd, 0, none⟩), .pointer (some ⟨bl, 0, none⟩), .pointer (some ⟨bh, 0, none⟩)]) ∧ Own1 lo w' bd (.string s) ∧ Own1 lo w' bl (.int .i64 (if c = 3 then 1 else 0)) ∧ Own1 lo w' bh (.int .i64 (if c = 3 then 0 else 1))
set_option maxRecDepth 100000 in
theorem units_two (s : ByteArray) (w : World) : Calls Tryd.prog 38 #[.string s, .int .i64 2] w fun e w' => UnitOk w.heap.size s 2 e w' ∧ Touch (fun _ => False) w w' := by
  go_enter Tryd.func38, Tryd.ntmps38
  go_wp2
  go_ret
  refine ⟨⟨_, _, _, rfl, ?_, ?_, ?_⟩, (((Touch.refl _ w).alloc _).alloc _).alloc _⟩
  · exact ((Own1.made rfl (Nat.le_refl _)).alloc _).alloc _
  · exact (Own1.made (by simp) (by omega)).alloc _
  · exact Own1.made (by simp) (by omega)
set_option maxRecDepth 100000 in
theorem units_three (s : ByteArray) (w : World) : Calls Tryd.prog 38 #[.string s, .int .i64 3] w fun e w' => UnitOk w.heap.size s 3 e w' ∧ Touch (fun _ => False) w w' := by
  go_enter Tryd.func38, Tryd.ntmps38
  go_wp2
  go_ret
  refine ⟨⟨_, _, _, rfl, ?_, ?_, ?_⟩, (((Touch.refl _ w).alloc _).alloc _).alloc _⟩
  · exact ((Own1.made rfl (Nat.le_refl _)).alloc _).alloc _
  · exact (Own1.made (by simp) (by omega)).alloc _
  · exact Own1.made (by simp) (by omega)
set_option maxRecDepth 100000 in
theorem taker_four (s : ByteArray) (w : World) : Calls Tryd.prog 22 #[.string s, .int .i64 4] w fun e w' => ∃ b, e = .returned (.func (.func 41) #[] #[.pointer (some ⟨b, 0, none⟩)]) ∧ Own1 w.heap.size w' b (.string s) ∧ Touch (fun _ => False) w w' := by
  go_enter Tryd.func22, Tryd.ntmps22
  go_wp2
  go_ret
  exact ⟨_, rfl, Own1.made rfl (Nat.le_refl _), (Touch.refl _ w).alloc _⟩
set_option maxRecDepth 100000 in
theorem taker_one (s : ByteArray) (w : World) : Calls Tryd.prog 22 #[.string s, .int .i64 1] w fun e w' => ∃ b, e = .returned (.func (.func 42) #[] #[.pointer (some ⟨b, 0, none⟩)]) ∧ Own1 w.heap.size w' b (.string s) ∧ Touch (fun _ => False) w w' := by
  go_enter Tryd.func22, Tryd.ntmps22
  go_wp2
  go_ret
  exact ⟨_, rfl, Own1.made rfl (Nat.le_refl _), (Touch.refl _ w).alloc _⟩
set_option maxRecDepth 100000 in
theorem taker_pair (s : ByteArray) (c : Int) (n : Nat) (w : World) (hcn : (c = 2 ∧ n = 2) ∨ (c = 3 ∧ n = 3)) (K : ∀ w, Calls Tryd.prog 38 #[.string s, .int .i64 c] w fun e w' => UnitOk w.heap.size s n e w' ∧ Touch (fun _ => False) w w') :
    Calls Tryd.prog 22 #[.string s, .int .i64 c] w fun e w' => ∃ b bd bl bh, e = .returned (.func (.func 39) #[] #[.pointer (some ⟨b, 0, none⟩)]) ∧ Own1 w.heap.size w' b (.func (.func 52) #[] #[.pointer (some ⟨bd, 0, none⟩), .pointer (some ⟨bl, 0, none⟩), .pointer (some ⟨bh, 0, none⟩)]) ∧ Own1 w.heap.size w' bd (.string s) ∧ Own1 w.heap.size w' bl (.int .i64 (if n = 3 then 1 else 0)) ∧ Own1 w.heap.size w' bh (.int .i64 (if n = 3 then 0 else 1)) ∧ Touch (fun _ => False) w w' := by
  rcases hcn with ⟨rfl, rfl⟩ | ⟨rfl, rfl⟩
  all_goals
    have KK := hid K
    clear K
    go_enter Tryd.func22, Tryd.ntmps22
    go_wp2_with fail
    refine (KK.out _).mono ?_
    rintro e w1 ⟨⟨bd, bl, bh, rfl, o1, o2, o3⟩, tc⟩
    have T := hid (((Touch.refl (fun _ => False) w).alloc _).trans tc (fun _ _ e => e))
    have HL := hid (show w.heap.size ≤ w1.heap.size from T.out.size)
    have HA := hid (show w.heap.size ≤ (w.alloc (.cells #[.string s] 9)).heap.size by simp)
    have O1 := hid o1
    have O2 := hid o2
    have O3 := hid o3
    clear tc o1 o2 o3 KK
    go_wp2
    go_ret
    exact ⟨_, rfl, bd, bl, bh, Own1.made rfl HL.out, (O1.out.low HA.out).alloc _, (O2.out.low HA.out).alloc _, (O3.out.low HA.out).alloc _, T.out.alloc _⟩

/-- What a taker answers at each place, whatever is written into an older block. -/
def TakeOk (lo : Nat) (s : ByteArray) (c : Nat) (fid b : Nat) (w : World) : Prop := ∀ q, q < lo → ∀ wq, Touch (fun k => k = q) w wq → Tabs wq → ∀ i : Nat, i < s.size → Calls Tryd.prog fid (#[.int .i64 i] ++ #[.pointer (some ⟨b, 0, none⟩)]) wq fun e w' => e = .returned (.tuple #[.int .i64 (tkAt s c i).1, .int .i64 ((tkAt s c i).2 : Nat)]) ∧ Touch (fun _ => False) wq w'
theorem taker_says (s : ByteArray) (c : Nat) (w : World) (hs : s.size ≤ 140737488351232) (hc : 1 ≤ c ∧ c ≤ 4) :
    Calls Tryd.prog 22 #[.string s, .int .i64 c] w fun e w' => ∃ fid b, (fid = 39 ∨ fid = 41 ∨ fid = 42) ∧ e = .returned (.func (.func fid) #[] #[.pointer (some ⟨b, 0, none⟩)]) ∧ TakeOk w.heap.size s c fid b w' ∧ Touch (fun _ => False) w w' := by
  have out : ∀ {q b : Nat}, q < w.heap.size → w.heap.size ≤ b → ¬ b = q := fun h1 h2 e => by omega
  rcases (show c = 1 ∨ c = 2 ∨ c = 3 ∨ c = 4 by omega) with rfl | rfl | rfl | rfl
  · refine (taker_one s w).mono ?_
    rintro e w' ⟨b, rfl, o, tc⟩
    exact ⟨42, b, .inr (.inr rfl), rfl, fun q hq wq tq ht i hi => take_rest b i s wq ht (o.kept tq (out hq o.ge)).cell hi hs, tc⟩
  · refine (taker_pair s 2 2 w (.inl ⟨rfl, rfl⟩) (units_two s)).mono ?_
    rintro e w' ⟨b, bd, bl, bh, rfl, o, o1, o2, o3, tc⟩
    refine ⟨39, b, .inl rfl, rfl, fun q hq wq tq ht i hi => take_pair (unitL s) b bd bl bh i wq (by omega) (unitL_in s) (o.kept tq (out hq o.ge)).cell (fun wz tz j hj => ?_), tc⟩
    exact units_little bd bl bh j s wz ((o1.kept tq (out hq o1.ge)).kept tz id).cell ((o2.kept tq (out hq o2.ge)).kept tz id).cell ((o3.kept tq (out hq o3.ge)).kept tz id).cell hs hj
  · refine (taker_pair s 3 3 w (.inr ⟨rfl, rfl⟩) (units_three s)).mono ?_
    rintro e w' ⟨b, bd, bl, bh, rfl, o, o1, o2, o3, tc⟩
    refine ⟨39, b, .inl rfl, rfl, fun q hq wq tq ht i hi => take_pair (unitB s) b bd bl bh i wq (by omega) (unitB_in s) (o.kept tq (out hq o.ge)).cell (fun wz tz j hj => ?_), tc⟩
    exact units_big bd bl bh j s wz ((o1.kept tq (out hq o1.ge)).kept tz id).cell ((o2.kept tq (out hq o2.ge)).kept tz id).cell ((o3.kept tq (out hq o3.ge)).kept tz id).cell hs hj
  · refine (taker_four s w).mono ?_
    rintro e w' ⟨b, rfl, o, tc⟩
    exact ⟨41, b, .inr (.inl rfl), rfl, fun q hq wq tq _ i hi => take_latin b i s wq (o.kept tq (out hq o.ge)).cell hi, tc⟩
end Go.Proofs.YtjpmjcadnnglnaaDoor

/- Does a text begin with a mark, and where its scalars begin; condition: the two tables lie there. -/
namespace Go.Proofs.YtjpmjcadnnglnaaDoor
open Go.RowKit

def begB (s p : ByteArray) : Bool := decide (p.size ≤ s.size) && ((s.extract 0 p.size).toList == p.toList)
set_option maxRecDepth 100000 in
theorem hasPrefix_lite (s p : ByteArray) (w : World) : Calls Tryd.prog 51 #[.string s, .string p] w fun e w' => e = .returned (.bool (begB s p)) ∧ w = w' := by
  by_cases h : p.size ≤ s.size
  · have hI : (p.size : Int) ≤ (s.size : Int) := by omega
    have HB := hid (show begB s p = ((s.extract 0 p.size).toList == p.toList) by unfold begB; rw [decide_eq_true h]; rfl)
    go_enter Tryd.func51, Tryd.ntmps51
    go_wp2
    go_ret
    exact ⟨by rw [HB.out]; rfl, rfl⟩
  · have hI : ¬ ((p.size : Int) ≤ (s.size : Int)) := by omega
    have HB := hid (show begB s p = false by unfold begB; rw [decide_eq_false h]; rfl)
    go_enter Tryd.func51, Tryd.ntmps51
    go_wp2
    go_ret
    exact ⟨by rw [HB.out]; rfl, rfl⟩
set_option maxRecDepth 100000 in
theorem hasPrefix_any (s p : ByteArray) (w : World) : Calls Tryd.prog 37 #[.string s, .string p] w fun e w' => e = .returned (.bool (begB s p)) ∧ w = w' := by
  have K := hid (hasPrefix_lite s p w)
  go_enter Tryd.func37, Tryd.ntmps37
  go_wp2_with fail
  refine K.out.mono ?_
  rintro e w1 ⟨rfl, rfl⟩
  go_wp2
  go_ret
  exact ⟨rfl, rfl⟩
def mk (c : Nat) : ByteArray := if c = 1 then ⟨#[239, 187, 191]⟩ else if c = 2 then ⟨#[255, 254]⟩ else if c = 3 then ⟨#[254, 255]⟩ else ⟨#[]⟩
theorem mk_cell {w : World} (h : Tabs w) (c : Nat) (hc : c < 5) : w.cell? ⟨0, c, none⟩ = some (.string (mk c)) := by
  obtain ⟨⟨t, h0⟩, _⟩ := h
  unfold World.cell?
  rw [h0]
  rcases (show c = 0 ∨ c = 1 ∨ c = 2 ∨ c = 3 ∨ c = 4 by omega) with rfl | rfl | rfl | rfl | rfl <;> rfl
theorem mk_size (c : Nat) : (mk c).size ≤ 3 := by
  unfold mk
  split
  · decide
  · split
    · decide
    · split <;> decide
/-- What Sniff tells: from such a coding on. -/
def sn (s : ByteArray) : Nat → Nat → Nat × Nat
  | 0, _ => (1, 0)
  | k + 1, c => if begB s (mk c) then (c, (mk c).size) else sn s k (c + 1)

set_option maxRecDepth 100000 in
set_option maxHeartbeats 4000000 in
theorem sniff_any (s : ByteArray) (w : World) (ht : Tabs w) : Calls Tryd.prog 36 #[.string s] w fun e w' => e = .returned (.tuple #[.int .i64 ((sn s 3 1).1 : Nat), .int .i64 ((sn s 3 1).2 : Nat)]) ∧ Touch (fun _ => False) w w' := by
  have HT := hid ht
  obtain ⟨R, hR⟩ : ∃ R, sn s 3 1 = R := ⟨_, rfl⟩
  have HR := hid hR
  rw [hR]
  clear ht hR
  go_enter Tryd.func36, Tryd.ntmps36
  go_wp2_with fail
  go_loopg [4] 3 (fun gk i wq => ∃ k : Nat, k + gk = 4 ∧ 1 ≤ k ∧ i = .int .i64 (k : Nat) ∧ sn s gk k = R ∧ w = wq)
  case atStart => exact ⟨1, rfl, Nat.le_refl _, rfl, HR.out, rfl⟩
  case round =>
    obtain ⟨k, hk, h1, rfl, hsn, rfl⟩ := hrel
    have HS := hid hsn
    clear hsn HR
    by_cases hlt : k ≤ 3
    · obtain ⟨gk, rfl⟩ : ∃ q, gk = q + 1 := ⟨gk - 1, by omega⟩
      have d0 := mk_cell HT.out k (by omega)
      have HST := hid (show (if begB s (mk k) then (k, (mk k).size) else sn s gk (k + 1)) = R from HS.out)
      have hms := mk_size k
      have KH := hid (hasPrefix_any s (mk k) w)
      have hkI : (k : Int) ≤ 3 := by omega
      clear HS
      generalize mk k = p at *
      obtain ⟨X, hX⟩ : ∃ X, begB s p = X := ⟨_, rfl⟩
      rw [hX] at HST KH
      clear hX
      cases X
      · have HRE := hid (show sn s gk (k + 1) = R from HST.out)
        go_wp2_with fail
        refine KH.out.mono ?_
        rintro e w1 ⟨rfl, rfl⟩
        go_wp2
        go_roundg gk
        case measure => omega
        case rel => exact ⟨k + 1, by omega, by omega, by go_num, HRE.out, rfl⟩
      · have HRE := hid (show (k, p.size) = R from HST.out)
        go_wp2_with fail
        refine KH.out.mono ?_
        rintro e w1 ⟨rfl, rfl⟩
        go_wp2_with fail
        go_quiet (fail)
        go_wp2
        go_ret2
        exact ⟨by rw [← HRE.out]; rfl, (Touch.refl _ _).drewN _⟩
    · obtain rfl : gk = 0 := by omega
      have HRE := hid (show (1, 0) = R from HS.out)
      have hkI : ¬ ((k : Int) ≤ 3) := by omega
      go_wp2
      go_ret2
      exact ⟨by rw [← HRE.out]; rfl, Touch.refl _ _⟩

/-- The coding that is used, and where its scalars begin. -/
def bg (s : ByteArray) (c : Nat) : Nat × Nat := if c = 0 then sn s 3 1 else if begB s (mk c) then (c, (mk c).size) else (c, 0)
set_option maxRecDepth 100000 in
set_option maxHeartbeats 4000000 in
theorem beginning_any (s : ByteArray) (c : Nat) (hc : c ≤ 4) (w : World) (ht : Tabs w) : Calls Tryd.prog 21 #[.string s, .int .i64 c] w fun e w' => e = .returned (.tuple #[.int .i64 ((bg s c).1 : Nat), .int .i64 ((bg s c).2 : Nat)]) ∧ Touch (fun _ => False) w w' := by
  by_cases h0 : c = 0
  · subst h0
    have KS := hid (sniff_any s w ht)
    rw [show bg s 0 = sn s 3 1 from rfl]
    generalize sn s 3 1 = R at *
    clear ht
    go_enter Tryd.func21, Tryd.ntmps21
    go_wp2_with fail
    refine KS.out.mono ?_
    rintro e w1 ⟨rfl, tc⟩
    have T := hid tc
    clear tc KS
    go_wp2
    go_ret2
    exact ⟨rfl, T.out⟩
  · obtain ⟨R, hR⟩ : ∃ R, bg s c = R := ⟨_, rfl⟩
    have HR := hid hR
    unfold bg at HR
    rw [if_neg h0] at HR
    rw [hR]
    have d0 := mk_cell ht c (by omega)
    have hms := mk_size c
    have KH := hid (hasPrefix_any s (mk c) w)
    have hcd : decide ((c : Int) = 0) = false := decide_eq_false (by omega)
    have hcd2 : ((c : Int) == 0) = false := by rw [beq_eq_false_iff_ne]; omega
    have hcI : (c : Int) < 5 := by omega
    clear hR ht h0
    generalize mk c = p at *
    obtain ⟨X, hX⟩ : ∃ X, begB s p = X := ⟨_, rfl⟩
    rw [hX] at HR KH
    clear hX
    cases X
    · have HRE := hid (show (c, 0) = R from HR.out)
      go_enter Tryd.func21, Tryd.ntmps21
      go_wp2_with fail
      refine KH.out.mono ?_
      rintro e w1 ⟨rfl, rfl⟩
      go_wp2
      go_ret2
      exact ⟨by rw [← HRE.out]; rfl, Touch.refl _ _⟩
    · have HRE := hid (show (c, p.size) = R from HR.out)
      go_enter Tryd.func21, Tryd.ntmps21
      go_wp2_with fail
      refine KH.out.mono ?_
      rintro e w1 ⟨rfl, rfl⟩
      go_wp2_with fail
      go_quiet (fail)
      go_wp2
      go_ret2
      exact ⟨by rw [← HRE.out]; rfl, (Touch.refl _ _).drewN _⟩
end Go.Proofs.YtjpmjcadnnglnaaDoor

/- A text under way: its two lists and what else it holds; no condition. -/
namespace Go.Proofs.YtjpmjcadnnglnaaDoor
open Go.RowKit

/-- Two lists of numbers of the call's own, and a block of another type beside them. -/
structure L2 (W0 wr : World) (q : Nat) (ty : TypeId) (cs : Array Value) (v1 v2 : Value) (rs ps : List Int) : Prop where
  o1 : wr.ownsRow 0 3 1 v1 rs.length (encI rs)
  o2 : wr.ownsRow 0 3 1 v2 ps.length (encI ps)
  n1 : ∀ g, v1.ownBlock = some g → W0.heap.size ≤ g
  n2 : ∀ g, v2.ownBlock = some g → W0.heap.size ≤ g
  ne : ∀ g, v1.ownBlock = some g → v2.ownBlock ≠ some g
  blk : wr.heap[q]? = some (.cells cs ty (0, 0))
  touch : Touch (fun k => k = q) W0 wr

theorem own_block {w : World} {v : Value} {n : Nat} {xs : List Value} (h : w.ownsRow 0 3 1 v n xs) {g : Nat} (hg : v.ownBlock = some g) : ∃ cur, w.heap[g]? = some (.cells cur 3 (0, 0)) := by
  rcases h.2 with ⟨rfl, _⟩ | ⟨b, cap, cur, rfl, _, hh, _⟩
  · simp [Value.ownBlock] at hg
  · simp [Value.ownBlock] at hg
    subst hg
    exact ⟨cur, hh⟩
theorem own_kept {w w' : World} {v : Value} {n : Nat} {xs : List Value} (h : w.ownsRow 0 3 1 v n xs) (hb : ∀ g, v.ownBlock = some g → w'.heap[g]? = w.heap[g]?) : w'.ownsRow 0 3 1 v n xs := by
  refine ⟨h.1, ?_⟩
  rcases h.2 with h0 | ⟨g, cap, cur, rfl, hg, hh, rest⟩
  · exact .inl h0
  · exact .inr ⟨g, cap, cur, rfl, hg, (hb g rfl).trans hh, rest⟩
theorem L2.ne1 {W0 wr : World} {q : Nat} {ty : TypeId} {cs : Array Value} {v1 v2 : Value} {rs ps : List Int} (h : L2 W0 wr q ty cs v1 v2 rs ps) (ht : ty ≠ 3) : v1.ownBlock ≠ some q := fun e => by
  obtain ⟨cur, hc⟩ := own_block h.o1 e
  rw [h.blk] at hc
  simp at hc
  exact ht hc.2
theorem L2.ne2 {W0 wr : World} {q : Nat} {ty : TypeId} {cs : Array Value} {v1 v2 : Value} {rs ps : List Int} (h : L2 W0 wr q ty cs v1 v2 rs ps) (ht : ty ≠ 3) : v2.ownBlock ≠ some q := fun e => by
  obtain ⟨cur, hc⟩ := own_block h.o2 e
  rw [h.blk] at hc
  simp at hc
  exact ht hc.2
theorem L2.still {W0 wr w' : World} {q : Nat} {ty : TypeId} {cs : Array Value} {v1 v2 : Value} {rs ps : List Int} (h : L2 W0 wr q ty cs v1 v2 rs ps) (t : Touch (fun _ => False) wr w') : L2 W0 w' q ty cs v1 v2 rs ps :=
  ⟨own_kept h.o1 (fun g hg => t.block g (lt_of_block (own_block h.o1 hg).choose_spec) id), own_kept h.o2 (fun g hg => t.block g (lt_of_block (own_block h.o2 hg).choose_spec) id), h.n1, h.n2, h.ne, (t.block q (lt_of_block h.blk) id).trans h.blk, h.touch.trans t (fun _ _ e => e.elim)⟩
theorem L2.set {W0 wr : World} {q : Nat} {ty : TypeId} {cs : Array Value} {v1 v2 : Value} {rs ps : List Int} (h : L2 W0 wr q ty cs v1 v2 rs ps) (ht : ty ≠ 3) (i : Nat) (x : Value) : L2 W0 (wr.setCell ⟨q, i, none⟩ x) q ty (cs.set! i x) v1 v2 rs ps :=
  ⟨own_kept h.o1 (fun g hg => Below.heap_setCell _ _ _ _ (fun e => h.ne1 ht (by rw [hg, e]))), own_kept h.o2 (fun g hg => Below.heap_setCell _ _ _ _ (fun e => h.ne2 ht (by rw [hg, e]))), h.n1, h.n2, h.ne, block_set h.blk i x, h.touch.setCell (fun _ => rfl) x⟩
/-- One number more in the first list. -/
theorem L2.app1 {W0 wr w1 : World} {q : Nat} {ty : TypeId} {cs : Array Value} {v1 v2 v' : Value} {rs ps : List Int} {x : Int} {o : Obj} (h : L2 W0 wr q ty cs v1 v2 rs ps) (ht : ty ≠ 3) (hown : w1.ownsRow 0 3 1 v' (rs.length + 1) (encI rs ++ [.int .i64 x])) (hg : (wr.alloc o).grownBy w1 v1.ownBlock) (hat : v'.ownBlock = v1.ownBlock ∨ v'.ownBlock = some (wr.heap.size + 1)) : L2 W0 w1 q ty cs v' v2 (rs ++ [x]) ps := by
  have key : ∀ k, k < wr.heap.size → v1.ownBlock ≠ some k → w1.heap[k]? = wr.heap[k]? := fun k hk hn => by
    rw [hg.block k (by simp; omega) (fun e => hn e.symm), Below.heap_alloc _ _ _ hk]
  refine ⟨?_, own_kept h.o2 (fun g e => key g (lt_of_block (own_block h.o2 e).choose_spec) (fun k => h.ne g k e)), fun g e => ?_, h.n2, fun g e k => ?_, (key q (lt_of_block h.blk) (h.ne1 ht)).trans h.blk, (h.touch.alloc o).grown hg (fun k e hk => by have := h.n1 k e; omega)⟩
  · rw [List.length_append, encI, List.map_append]
    exact hown
  · rcases hat with k | k
    · exact h.n1 g (by rw [← k]; exact e)
    · rw [k] at e
      simp at e
      have := h.touch.size
      omega
  · rcases hat with z | z
    · exact h.ne g (by rw [← z]; exact e) k
    · rw [z] at e
      simp at e
      have := lt_of_block (own_block h.o2 k).choose_spec
      omega
/-- One number more in the second list. -/
theorem L2.app2 {W0 wr w1 : World} {q : Nat} {ty : TypeId} {cs : Array Value} {v1 v2 v' : Value} {rs ps : List Int} {x : Int} {o : Obj} (h : L2 W0 wr q ty cs v1 v2 rs ps) (ht : ty ≠ 3) (hown : w1.ownsRow 0 3 1 v' (ps.length + 1) (encI ps ++ [.int .i64 x])) (hg : (wr.alloc o).grownBy w1 v2.ownBlock) (hat : v'.ownBlock = v2.ownBlock ∨ v'.ownBlock = some (wr.heap.size + 1)) : L2 W0 w1 q ty cs v1 v' rs (ps ++ [x]) := by
  have key : ∀ k, k < wr.heap.size → v2.ownBlock ≠ some k → w1.heap[k]? = wr.heap[k]? := fun k hk hn => by
    rw [hg.block k (by simp; omega) (fun e => hn e.symm), Below.heap_alloc _ _ _ hk]
  refine ⟨own_kept h.o1 (fun g e => key g (lt_of_block (own_block h.o1 e).choose_spec) (h.ne g e)), ?_, h.n1, fun g e => ?_, fun g e k => ?_, (key q (lt_of_block h.blk) (h.ne2 ht)).trans h.blk, (h.touch.alloc o).grown hg (fun k e hk => by have := h.n2 k e; omega)⟩
  · rw [List.length_append, encI, List.map_append]
    exact hown
  · rcases hat with k | k
    · exact h.n2 g (by rw [← k]; exact e)
    · rw [k] at e
      simp at e
      have := h.touch.size
      omega
  · rcases hat with z | z
    · exact h.ne g e (by rw [← z]; exact k)
    · rw [z] at k
      simp at k
      have := lt_of_block (own_block h.o1 e).choose_spec
      omega

theorem results_cc {P : Program} {fn : Func} {p q : Tmp} {ty ty2 : TypeId} (h : fn.results = #[.cell p ty, .cell q ty2]) (tmps : Array Value) (w : World) (g g2 : Nat) (et et2 : TypeId) (cs cs2 : Array Value) (fr fr2 : Nat × Nat) (d d2 : TypeDesc)
    (hp : tmps.getD p undef = .pointer (some ⟨g, 0, none⟩)) (hg : w.heap[g]? = some (.cells cs et fr))
    (hu : P.underlying ty = some d) (hd : (match d with | .struct _ | .array _ _ => true | _ => false) = true) (hi : (P.info? ty).map (·.size) = some cs.size)
    (hp2 : tmps.getD q undef = .pointer (some ⟨g2, 0, none⟩)) (hg2 : w.heap[g2]? = some (.cells cs2 et2 fr2))
    (hu2 : P.underlying ty2 = some d2) (hd2 : (match d2 with | .struct _ | .array _ _ => true | _ => false) = true) (hi2 : (P.info? ty2).map (·.size) = some cs2.size) :
    (results fn tmps).run P w = .ok (.tuple #[.agg cs, .agg cs2]) w := by
  have hp' : tmps[p]?.getD undef = .pointer (some ⟨g, 0, none⟩) := by simpa using hp
  have hp2' : tmps[q]?.getD undef = .pointer (some ⟨g2, 0, none⟩) := by simpa using hp2
  simp [results, h, hp', hp2', asAddr, run_loadVar_row w g et ty cs fr d hg hu hd hi, run_loadVar_row w g2 et2 ty2 cs2 fr2 d2 hg2 hu2 hd2 hi2]

/-! ### How many bytes a scalar has -/
theorem tk16_size (U : Nat → Int) (i : Nat) : 1 ≤ (tk16 U i).2 ∧ (tk16 U i).2 ≤ 4 := by
  unfold tk16
  split
  · simp
  · split
    · simp
    · split <;> simp
theorem tkGo_size (s : ByteArray) (m : Nat) (hm : m ≤ 3) : ∀ (k i sc lo hi : Nat), 1 ≤ i → i + k = m + 1 → 1 ≤ (tkGo s m k i sc lo hi).2 ∧ (tkGo s m k i sc lo hi).2 ≤ 4
  | 0, i, sc, lo, hi, h1, h2 => by
    unfold tkGo
    dsimp only
    omega
  | k + 1, i, sc, lo, hi, h1, h2 => by
    unfold tkGo
    split
    · dsimp only
      omega
    · exact tkGo_size s m hm k (i + 1) _ _ _ (by omega) (by omega)
theorem tk8_size (s : ByteArray) : 1 ≤ (tk8 s).2 ∧ (tk8 s).2 ≤ 4 := by
  unfold tk8
  split
  · simp
  · rename_i l h
    have := lead_in h
    exact tkGo_size s l.more (by omega) l.more 1 _ _ _ (Nat.le_refl _) (by omega)
theorem tkAt_size (s : ByteArray) (c i : Nat) : 1 ≤ (tkAt s c i).2 ∧ (tkAt s c i).2 ≤ 4 := by
  unfold tkAt
  split
  · exact tk16_size _ _
  · split
    · exact tk16_size _ _
    · split
      · simp
      · exact tk8_size _
/-- The scalars from a place on: the place of the first that is bad, scalars, places, how many are bad. -/
def dcGo (s : ByteArray) (c : Nat) (strict : Bool) : Nat → Nat → List Int → List Int → Nat → Option Nat × List Int × List Int × Nat
  | 0, _, rs, ps, bad => (none, rs, ps, bad)
  | k + 1, i, rs, ps, bad =>
    if i < s.size then
      if (tkAt s c i).1 = -1 then
        if strict = true then (some i, [], [], 0) else dcGo s c strict k (i + (tkAt s c i).2) (rs ++ [65533]) (ps ++ [(i : Int)]) (bad + 1)
      else dcGo s c strict k (i + (tkAt s c i).2) (rs ++ [(tkAt s c i).1]) (ps ++ [(i : Int)]) bad
    else (none, rs, ps, bad)
theorem dc_end {s : ByteArray} {c : Nat} {strict : Bool} {k i : Nat} {rs ps : List Int} {bad : Nat} (h : s.size ≤ i) : dcGo s c strict k i rs ps bad = (none, rs, ps, bad) := by
  cases k with
  | zero => rfl
  | succ k =>
    unfold dcGo
    rw [if_neg (by omega)]
theorem dc_step {s : ByteArray} {c : Nat} {strict : Bool} {k i : Nat} {rs ps : List Int} {bad : Nat} (h : i < s.size) : dcGo s c strict (k + 1) i rs ps bad = if (tkAt s c i).1 = -1 then
        if strict = true then (some i, [], [], 0) else dcGo s c strict k (i + (tkAt s c i).2) (rs ++ [65533]) (ps ++ [(i : Int)]) (bad + 1)
      else dcGo s c strict k (i + (tkAt s c i).2) (rs ++ [(tkAt s c i).1]) (ps ++ [(i : Int)]) bad := by
  conv => lhs; unfold dcGo
  rw [if_pos h]
end Go.Proofs.YtjpmjcadnnglnaaDoor
