/- Texts of this proof, one behind the other: what each says stands ahead of it. -/
import Derived.Test.YtpjnnbegimaaeaaDoorM0
import Derived.Laws.Rows
/- The table of first bytes, and the row that a first byte has; condition: the two tables lie there. -/
namespace Go.Proofs.YtpjnnbegimaaeaaDoor
open Go.RowKit

/-- A row: first, last, how many follow, the second's least and greatest. -/
structure Lead where
  first : Nat
  last : Nat
  more : Nat
  low : Nat
  high : Nat

def leadsL : List Lead := [⟨0, 127, 0, 0, 0⟩, ⟨194, 223, 1, 128, 191⟩, ⟨224, 224, 2, 160, 191⟩, ⟨225, 236, 2, 128, 191⟩, ⟨237, 237, 2, 128, 159⟩, ⟨238, 239, 2, 128, 191⟩, ⟨240, 240, 3, 144, 191⟩, ⟨241, 243, 3, 128, 191⟩, ⟨244, 244, 3, 128, 143⟩]
def leadV (l : Lead) : Array Value := #[.int .u8 l.first, .int .u8 l.last, .int .i64 l.more, .int .u8 l.low, .int .u8 l.high]
def leadsC : Array Value := #[.int .u8 0, .int .u8 127, .int .i64 0, .int .u8 0, .int .u8 0, .int .u8 194, .int .u8 223, .int .i64 1, .int .u8 128, .int .u8 191, .int .u8 224, .int .u8 224, .int .i64 2, .int .u8 160, .int .u8 191, .int .u8 225, .int .u8 236, .int .i64 2, .int .u8 128, .int .u8 191, .int .u8 237, .int .u8 237, .int .i64 2, .int .u8 128, .int .u8 159, .int .u8 238, .int .u8 239, .int .i64 2, .int .u8 128, .int .u8 191, .int .u8 240, .int .u8 240, .int .i64 3, .int .u8 144, .int .u8 191, .int .u8 241, .int .u8 243, .int .i64 3, .int .u8 128, .int .u8 191, .int .u8 244, .int .u8 244, .int .i64 3, .int .u8 128, .int .u8 143]
def marksC : Array Value := #[.string ⟨#[]⟩, .string ⟨#[239, 187, 191]⟩, .string ⟨#[255, 254]⟩, .string ⟨#[254, 255]⟩, .string ⟨#[]⟩]
/-- Both tables lie where they lie. -/
structure Tabs (w : World) : Prop where
  marks : ∃ t, w.heap[0]? = some (.cells marksC t (0, 0))
  leads : ∃ t, w.heap[1]? = some (.cells leadsC t (0, 0))
theorem Tabs.new {w w' : World} (h : Tabs w) (t : Touch (fun _ => False) w w') : Tabs w' := by
  obtain ⟨⟨t0, h0⟩, ⟨t1, h1⟩⟩ := h
  exact ⟨⟨t0, (t.block 0 (lt_of_block h0) id).trans h0⟩, ⟨t1, (t.block 1 (lt_of_block h1) id).trans h1⟩⟩
theorem info70 : (Tryd.prog.info? 70).map (fun i => (i.zero, i.size, i.bytes)) = some (some (.agg #[.int .u8 0, .int .u8 0, .int .i64 0, .int .u8 0, .int .u8 0]), 5, 24) := by kernel_rfl
theorem run_index73 (k : Nat) (l : Lead) (w : World) (hk : k < 9) (hx : leadsL[k]? = some l) : (Instr.index 73 (.agg leadsC) (.int .i64 (k : Int))).run Tryd.prog w = .ok (.agg (leadV l)) w := by
  obtain ⟨i0, h1, hz0, hz1, hz2⟩ := info_parts info70
  rcases (show k = 0 ∨ k = 1 ∨ k = 2 ∨ k = 3 ∨ k = 4 ∨ k = 5 ∨ k = 6 ∨ k = 7 ∨ k = 8 by omega) with rfl | rfl | rfl | rfl | rfl | rfl | rfl | rfl | rfl <;>
    (simp [leadsL] at hx
     subst hx
     simp [Instr.index, run_underlying Tryd.underlying73, asIntOf, go_sem, part, sizeOf, typeInfo, h1, hz1, leadsC, leadV])
def hasLead (b : Nat) (l : Lead) : Bool := decide (l.first ≤ b) && decide (b ≤ l.last)
def leadOf (b : Nat) : Option Lead := leadsL.find? (hasLead b)
theorem find_more {α : Type} (f : α → Bool) (l : List α) (k : Nat) (h : k < l.length) (h0 : (l.take k).find? f = none) : (l.take (k + 1)).find? f = if f l[k] = true then some l[k] else none := by
  rw [List.take_succ_eq_append_getElem h, List.find?_append, h0]
  simp [List.find?_cons]
  split <;> simp_all
theorem find_there {α : Type} (f : α → Bool) (l : List α) (k : Nat) (x : α) (h : (l.take k).find? f = some x) : l.find? f = some x := by
  rw [← List.take_append_drop k l, List.find?_append, h]
  rfl
theorem lead_small : ∀ l ∈ leadsL, l.first < 256 ∧ l.last < 256 ∧ l.more ≤ 3 ∧ l.low < 256 ∧ l.high < 256 := by decide
theorem results_ct {P : Program} {fn : Func} {p q : Tmp} {ty : TypeId} (h : fn.results = #[.cell p ty, .tmp q]) (tmps : Array Value) (w : World) (g : Nat) (et : TypeId) (cs : Array Value) (fr : Nat × Nat) (d : TypeDesc)
    (hp : tmps.getD p undef = .pointer (some ⟨g, 0, none⟩)) (hg : w.heap[g]? = some (.cells cs et fr))
    (hu : P.underlying ty = some d) (hd : (match d with | .struct _ | .array _ _ => true | _ => false) = true) (hi : (P.info? ty).map (·.size) = some cs.size) :
    (results fn tmps).run P w = .ok (.tuple #[.agg cs, tmps.getD q undef]) w := by
  have hp' : tmps[p]?.getD undef = .pointer (some ⟨g, 0, none⟩) := by simpa using hp
  simp [results, h, hp', asAddr, run_loadVar_row w g et ty cs fr d hg hu hd hi]
theorem block_new (w : World) (cs : Array Value) (t : TypeId) : (w.alloc (.cells cs t)).heap[w.heap.size]? = some (.cells cs t (0, 0)) := by
  show (w.heap.push _)[_]? = _
  simp

/-- What leadOf answers. -/
def leadR (b : Nat) : Value := .tuple (match leadOf b with | some l => #[.agg (leadV l), .bool true] | none => #[.agg #[.int .u8 0, .int .u8 0, .int .i64 0, .int .u8 0, .int .u8 0], .bool false])
theorem leadR_some {b : Nat} {l : Lead} (h : leadOf b = some l) : leadR b = .tuple #[.agg (leadV l), .bool true] := by unfold leadR; rw [h]
theorem leadR_none {b : Nat} (h : leadOf b = none) : leadR b = .tuple #[.agg #[.int .u8 0, .int .u8 0, .int .i64 0, .int .u8 0, .int .u8 0], .bool false] := by unfold leadR; rw [h]
/-- Five cells set one behind the other. -/
theorem five_set {w : World} {g : Nat} {t : TypeId} {a0 a1 a2 a3 a4 : Value} (h : w.heap[g]? = some (.cells #[a0, a1, a2, a3, a4] t (0, 0))) (b0 b1 b2 b3 b4 : Value) :
    (((((w.setCell ⟨g, 0, none⟩ b0).setCell ⟨g, 1, none⟩ b1).setCell ⟨g, 2, none⟩ b2).setCell ⟨g, 3, none⟩ b3).setCell ⟨g, 4, none⟩ b4).heap[g]? = some (.cells #[b0, b1, b2, b3, b4] t (0, 0)) :=
  block_set (block_set (block_set (block_set (block_set h 0 b0) 1 b1) 2 b2) 3 b3) 4 b4
theorem five_touch {w0 w : World} {g : Nat} (h : Touch (fun _ => False) w0 w) (hg : w0.heap.size ≤ g) (b0 b1 b2 b3 b4 : Value) :
    Touch (fun _ => False) w0 (((((w.setCell ⟨g, 0, none⟩ b0).setCell ⟨g, 1, none⟩ b1).setCell ⟨g, 2, none⟩ b2).setCell ⟨g, 3, none⟩ b3).setCell ⟨g, 4, none⟩ b4) :=
  ((((h.setCell (p := ⟨g, 0, none⟩) (fun k => absurd k (Nat.not_lt.2 hg)) b0).setCell (p := ⟨g, 1, none⟩) (fun k => absurd k (Nat.not_lt.2 hg)) b1).setCell (p := ⟨g, 2, none⟩) (fun k => absurd k (Nat.not_lt.2 hg)) b2).setCell (p := ⟨g, 3, none⟩) (fun k => absurd k (Nat.not_lt.2 hg)) b3).setCell (p := ⟨g, 4, none⟩) (fun k => absurd k (Nat.not_lt.2 hg)) b4

set_option maxRecDepth 100000 in
set_option maxHeartbeats 4000000 in
theorem leadOf_any (b : Nat) (w : World) (ht : Tabs w) :
    Calls Tryd.prog 44 #[.int .u8 b] w fun e w' => e = .returned (leadR b) ∧ Touch (fun _ => False) w w' := by
  have HT := hid ht
  obtain ⟨_, ⟨t1, h1⟩⟩ := ht
  have B0 := hid (block_new w #[.int .u8 0, .int .u8 0, .int .i64 0, .int .u8 0, .int .u8 0] 70)
  have TA := hid ((Touch.refl (fun _ => False) w).alloc (.cells #[.int .u8 0, .int .u8 0, .int .i64 0, .int .u8 0, .int .u8 0] 70))
  have h1' : (w.alloc (.cells #[.int .u8 0, .int .u8 0, .int .i64 0, .int .u8 0, .int .u8 0] 70)).heap[1]? = some (.cells leadsC t1 (0, 0)) := (TA.out.block 1 (lt_of_block h1) id).trans h1
  go_enter Tryd.func44, Tryd.ntmps44
  go_wp2_with (first | refine wpList_load_row rfl 73 _ rfl 1 rfl t1 leadsC (0, 0) _ h1' Tryd.underlying73 rfl (by kernel_rfl) ?_ | fail)
  generalize (w.alloc (.cells #[.int .u8 0, .int .u8 0, .int .i64 0, .int .u8 0, .int .u8 0] 70)) = w1 at *
  obtain ⟨g, hg⟩ : ∃ g, g = w.heap.size := ⟨_, rfl⟩
  rw [← hg] at B0 ⊢
  have HGW := hid (show w.heap.size ≤ g by omega)
  clear hg h1 h1'
  go_loopg [7] 9 (fun gk i wq => ∃ k : Nat, k + gk = 9 ∧ i = .int .i64 (k : Nat) ∧ (leadsL.take k).find? (hasLead b) = none ∧ Touch (fun _ => False) w1 wq)
  case atStart => exact ⟨0, rfl, rfl, rfl, Touch.refl _ _⟩
  case round =>
    obtain ⟨k, hk, rfl, hno, htc⟩ := hrel
    have TC := hid htc
    have HNO := hid hno
    clear hno htc
    by_cases hlt : k < 9
    · obtain ⟨l, hl⟩ : ∃ l, leadsL[k]? = some l := ⟨leadsL[k]'(by simpa [leadsL] using hlt), List.getElem?_eq_getElem _⟩
      have hix := run_index73 k l wr hlt hl
      have hgk : leadsL[k]'(by simpa [leadsL] using hlt) = l := by
        rw [List.getElem?_eq_getElem (by simpa [leadsL] using hlt)] at hl
        exact Option.some.inj hl
      have HF := hid (find_more (hasLead b) leadsL k (by simpa [leadsL] using hlt) HNO.out)
      rw [hgk] at HF
      have hsm := lead_small l (by rw [← hgk]; exact List.getElem_mem _)
      have hkI : (k : Int) < 9 := by omega
      clear hl hgk
      obtain ⟨x, y, m, lo, hi⟩ := l
      unfold leadV at hix
      dsimp only at hix hsm HF
      have B5 := hid (block_new wr #[.int .u8 x, .int .u8 y, .int .i64 m, .int .u8 lo, .int .u8 hi] 70)
      have T5 := hid (TC.out.alloc (.cells #[.int .u8 x, .int .u8 y, .int .i64 m, .int .u8 lo, .int .u8 hi] 70))
      go_upto_region 4 with fail
      generalize (wr.alloc (.cells #[.int .u8 x, .int .u8 y, .int .i64 m, .int .u8 lo, .int .u8 hi] 70)) = wA at *
      have c0 : wA.cell? ⟨wr.heap.size, 0, none⟩ = some (.int .u8 x) := by simp [World.cell?, B5.out]
      have c1 : wA.cell? ⟨wr.heap.size, 1, none⟩ = some (.int .u8 y) := by simp [World.cell?, B5.out]
      have c2 : wA.cell? ⟨wr.heap.size, 2, none⟩ = some (.int .i64 m) := by simp [World.cell?, B5.out]
      have c3 : wA.cell? ⟨wr.heap.size, 3, none⟩ = some (.int .u8 lo) := by simp [World.cell?, B5.out]
      have c4 : wA.cell? ⟨wr.heap.size, 4, none⟩ = some (.int .u8 hi) := by simp [World.cell?, B5.out]
      have G0 := hid ((T5.out.block g (lt_of_block B0.out) id).trans B0.out)
      have f0 : wA.frozen? ⟨g, 0, none⟩ = false := by simp [World.frozen?, G0.out]
      have f1 : wA.frozen? ⟨g, 1, none⟩ = false := by simp [World.frozen?, G0.out]
      have f2 : wA.frozen? ⟨g, 2, none⟩ = false := by simp [World.frozen?, G0.out]
      have f3 : wA.frozen? ⟨g, 3, none⟩ = false := by simp [World.frozen?, G0.out]
      have f4 : wA.frozen? ⟨g, 4, none⟩ = false := by simp [World.frozen?, G0.out]
      have g0 : wA.cell? ⟨g, 0, none⟩ = some (.int .u8 0) := by simp [World.cell?, G0.out]
      have g1 : wA.cell? ⟨g, 1, none⟩ = some (.int .u8 0) := by simp [World.cell?, G0.out]
      have g2 : wA.cell? ⟨g, 2, none⟩ = some (.int .i64 0) := by simp [World.cell?, G0.out]
      have g3 : wA.cell? ⟨g, 3, none⟩ = some (.int .u8 0) := by simp [World.cell?, G0.out]
      have g4 : wA.cell? ⟨g, 4, none⟩ = some (.int .u8 0) := by simp [World.cell?, G0.out]
      clear hix
      by_cases hx : x ≤ b
      · have hxI : (x : Int) ≤ (b : Int) := by omega
        by_cases hy : b ≤ y
        · have hyI : (b : Int) ≤ (y : Int) := by omega
          have HL := hid (show leadOf b = some ⟨x, y, m, lo, hi⟩ from find_there _ _ (k + 1) _ (by rw [HF.out, if_pos (by simp [hasLead, hx, hy])]))
          have TE := hid (TA.out.trans T5.out (fun _ _ e => e))
          go_wp2
          refine bodyPost_ret (results_ct rfl _ _ g 70 _ (0, 0) _ rfl (five_set G0.out _ _ _ _ _) Tryd.underlying70 rfl (by kernel_rfl)) rfl ?_
          exact ⟨by rw [leadR_some HL.out]; rfl, five_touch TE.out HGW.out _ _ _ _ _⟩
        · have HNX := hid (show (leadsL.take (k + 1)).find? (hasLead b) = none by rw [HF.out, if_neg (by simp [hasLead, hy])])
          have hyd : decide ((b : Int) ≤ (y : Int)) = false := decide_eq_false (by omega)
          go_wp2
          go_roundg (gk - 1)
          case measure => omega
          case rel => exact ⟨k + 1, by omega, by go_num, HNX.out, T5.out⟩
      · have HNX := hid (show (leadsL.take (k + 1)).find? (hasLead b) = none by rw [HF.out, if_neg (by simp [hasLead, hx])])
        have hxd : decide ((x : Int) ≤ (b : Int)) = false := decide_eq_false (by omega)
        go_wp2
        go_roundg (gk - 1)
        case measure => omega
        case rel => exact ⟨k + 1, by omega, by go_num, HNX.out, T5.out⟩
    · obtain rfl : k = 9 := by omega
      have HL := hid (show leadOf b = none from HNO.out)
      have G0 := hid ((TC.out.block g (lt_of_block B0.out) id).trans B0.out)
      have f0 : wr.frozen? ⟨g, 0, none⟩ = false := by simp [World.frozen?, G0.out]
      have f1 : wr.frozen? ⟨g, 1, none⟩ = false := by simp [World.frozen?, G0.out]
      have f2 : wr.frozen? ⟨g, 2, none⟩ = false := by simp [World.frozen?, G0.out]
      have f3 : wr.frozen? ⟨g, 3, none⟩ = false := by simp [World.frozen?, G0.out]
      have f4 : wr.frozen? ⟨g, 4, none⟩ = false := by simp [World.frozen?, G0.out]
      have g0 : wr.cell? ⟨g, 0, none⟩ = some (.int .u8 0) := by simp [World.cell?, G0.out]
      have g1 : wr.cell? ⟨g, 1, none⟩ = some (.int .u8 0) := by simp [World.cell?, G0.out]
      have g2 : wr.cell? ⟨g, 2, none⟩ = some (.int .i64 0) := by simp [World.cell?, G0.out]
      have g3 : wr.cell? ⟨g, 3, none⟩ = some (.int .u8 0) := by simp [World.cell?, G0.out]
      have g4 : wr.cell? ⟨g, 4, none⟩ = some (.int .u8 0) := by simp [World.cell?, G0.out]
      have TE := hid (TA.out.trans TC.out (fun _ _ e => e))
      go_wp2
      refine bodyPost_ret (results_ct rfl _ _ g 70 _ (0, 0) _ rfl (five_set G0.out _ _ _ _ _) Tryd.underlying70 rfl (by kernel_rfl)) rfl ?_
      exact ⟨by rw [leadR_none HL.out]; rfl, five_touch TE.out HGW.out _ _ _ _ _⟩
end Go.Proofs.YtpjnnbegimaaeaaDoor

/- takeUTF8 of a text that isn't empty; condition: the two tables lie there. -/
namespace Go.Proofs.YtpjnnbegimaaeaaDoor
open Go.RowKit

def tkGo (s : ByteArray) (m : Nat) : Nat → Nat → Nat → Nat → Nat → Int × Nat
  | 0, _, sc, _, _ => ((sc : Int), 1 + m)
  | k + 1, i, sc, lo, hi => if i = s.size ∨ byN s i < lo ∨ hi < byN s i then (-1, i) else tkGo s m k (i + 1) (64 * sc + byN s i % 64) 128 191
def tk8 (s : ByteArray) : Int × Nat := match leadOf (byN s 0) with
  | none => (-1, 1)
  | some l => tkGo s l.more l.more 1 (byN s 0 % 2 ^ (7 - l.more)) l.low l.high
theorem lead_in {b : Nat} {l : Lead} (h : leadOf b = some l) : l.first < 256 ∧ l.last < 256 ∧ l.more ≤ 3 ∧ l.low < 256 ∧ l.high < 256 := lead_small l (List.mem_of_find?_eq_some h)

theorem and_mask (n k : Nat) (hn : n < 256) (hk : k ≤ 7) : bits .and .i64 (wrap64 (n : Int)) ((2 ^ k - 1 : Nat) : Int) = ((n % 2 ^ k : Nat) : Int) := by
  have hp : 2 ^ k ≤ 2 ^ 7 := Nat.pow_le_pow_right (by decide) hk
  rw [IntWalk.wrap64_in _ (by omega), (bits_nat .i64 62 (by decide) wraps_i64 n (2 ^ k - 1) (by omega) (by omega)).1, Nat.and_two_pow_sub_one_eq_mod]
theorem next_six (sc n : Nat) (hs : sc < 524288) : bits .or .i64 ((sc : Int) * 64) ((n : Int) % 64) = ((64 * sc + n % 64 : Nat) : Int) := by
  rw [show (sc : Int) * 64 = ((2 ^ 6 * sc : Nat) : Int) by omega, show (n : Int) % 64 = ((n % 64 : Nat) : Int) by omega, or_high (n % 64) sc 6 (by omega) (by omega)]

set_option maxRecDepth 100000 in
set_option maxHeartbeats 8000000 in
theorem take8_any (s : ByteArray) (hs : 0 < s.size) (hb : s.size ≤ 140737488351232) (w : World) (ht : Tabs w) :
    Calls Tryd.prog 31 #[.string s] w fun e w' => e = .returned (.tuple #[.int .i64 (tk8 s).1, .int .i64 ((tk8 s).2 : Nat)]) ∧ Touch (fun _ => False) w w' := by
  have K := hid (leadOf_any (byN s 0) w ht)
  have HB := hid (by_get s 0 hs)
  have hsI : (0 : Int) < (s.size : Int) := by omega
  obtain ⟨R, hR⟩ : ∃ R, tk8 s = R := ⟨_, rfl⟩
  have HR := hid hR
  rw [hR]
  clear hR ht
  cases hl : leadOf (byN s 0) with
  | none =>
    rw [leadR_none hl, ← HB.out] at K
    have HRN := hid (show R = (-1, 1) by rw [← HR.out]; unfold tk8; rw [hl])
    clear hl
    go_enter Tryd.func31, Tryd.ntmps31
    go_wp2_with fail
    refine K.out.mono ?_
    rintro e w1 ⟨rfl, tc⟩
    have T := hid tc
    clear tc K
    go_wp2
    go_ret2
    exact ⟨by rw [HRN.out]; rfl, T.out.alloc _⟩
  | some l =>
    rw [leadR_some hl, ← HB.out] at K
    have hsm := lead_in hl
    have HRS := hid (show tkGo s l.more l.more 1 (byN s 0 % 2 ^ (7 - l.more)) l.low l.high = R by rw [← HR.out]; unfold tk8; rw [hl])
    clear hl HR
    obtain ⟨x, y, m, lo, hi⟩ := l
    unfold leadV at K
    dsimp only at K hsm HRS
    go_enter Tryd.func31, Tryd.ntmps31
    go_wp2_with fail
    refine K.out.mono ?_
    rintro e w1 ⟨rfl, tc⟩
    have T := hid (tc.alloc (.cells #[.int .u8 x, .int .u8 y, .int .i64 m, .int .u8 lo, .int .u8 hi] 70))
    have B := hid (block_new w1 #[.int .u8 x, .int .u8 y, .int .i64 m, .int .u8 lo, .int .u8 hi] 70)
    clear tc K
    go_upto_region 4 with fail
    generalize (w1.alloc (.cells #[.int .u8 x, .int .u8 y, .int .i64 m, .int .u8 lo, .int .u8 hi] 70)) = wA at *
    obtain ⟨g, hg⟩ : ∃ g, g = w1.heap.size := ⟨_, rfl⟩
    rw [← hg] at B ⊢
    clear hg
    have c2 : wA.cell? ⟨g, 2, none⟩ = some (.int .i64 m) := by simp [World.cell?, B.out]
    have c3 : wA.cell? ⟨g, 3, none⟩ = some (.int .u8 lo) := by simp [World.cell?, B.out]
    have c4 : wA.cell? ⟨g, 4, none⟩ = some (.int .u8 hi) := by simp [World.cell?, B.out]
    go_cut [6] (fun v wd => v = .int .i64 ((byN s 0 % 2 ^ (7 - m) : Nat) : Int) ∧ ∃ n, wd = wA.drewN n)
    case first =>
      rcases (show m = 0 ∨ m = 1 ∨ m = 2 ∨ m = 3 by omega) with rfl | rfl | rfl | rfl
      · have HM := hid (and_mask (byN s 0) 7 (by_lt s 0) (by decide))
        go_quiet (fail)
        go_wp2
        go_meet
        case rel => exact ⟨by rw [HB.out]; exact congrArg _ HM.out, _, rfl⟩
      · have HM := hid (and_mask (byN s 0) 6 (by_lt s 0) (by decide))
        go_quiet (fail)
        go_wp2
        go_meet
        case rel => exact ⟨by rw [HB.out]; exact congrArg _ HM.out, _, rfl⟩
      · have HM := hid (and_mask (byN s 0) 5 (by_lt s 0) (by decide))
        go_quiet (fail)
        go_wp2
        go_meet
        case rel => exact ⟨by rw [HB.out]; exact congrArg _ HM.out, _, rfl⟩
      · have HM := hid (and_mask (byN s 0) 4 (by_lt s 0) (by decide))
        go_quiet (fail)
        go_wp2
        go_meet
        case rel => exact ⟨by rw [HB.out]; exact congrArg _ HM.out, _, rfl⟩
    obtain ⟨rfl, n1, rfl⟩ := hcut
    have hsc : byN s 0 % 2 ^ (7 - m) < 128 := by
      have h1 : 0 < 2 ^ (7 - m) := Nat.two_pow_pos _
      have h2 : 2 ^ (7 - m) ≤ 2 ^ 7 := Nat.pow_le_pow_right (by decide) (by omega)
      have := Nat.mod_lt (byN s 0) h1
      omega
    generalize byN s 0 % 2 ^ (7 - m) = sc0 at *
    replace T := hid (T.out.drewN n1)
    replace B := hid (show (wA.drewN n1).heap[g]? = _ from B.out)
    have e2 : (wA.drewN n1).cell? ⟨g, 2, none⟩ = some (.int .i64 m) := c2
    have e3 : (wA.drewN n1).cell? ⟨g, 3, none⟩ = some (.int .u8 lo) := c3
    have e4 : (wA.drewN n1).cell? ⟨g, 4, none⟩ = some (.int .u8 hi) := c4
    clear c2 c3 c4 HB
    generalize wA.drewN n1 = wB at *
    go_wp2_with fail
    go_quiet (fail)
    replace T := hid (T.out.drewN nq)
    replace B := hid (show (wB.drewN nq).heap[g]? = _ from B.out)
    have d2 : (wB.drewN nq).cell? ⟨g, 2, none⟩ = some (.int .i64 m) := e2
    clear e2 e3 e4
    generalize wB.drewN nq = wC at *
    go_wp2_with fail
    go_loopg [6, 7, 8, 9] m (fun gk v6 v7 v8 v9 wq => ∃ i sc l h : Nat, i + gk = m + 1 ∧ 1 ≤ i ∧ v6 = .int .i64 (sc : Nat) ∧ v7 = .int .u8 (l : Nat) ∧ v8 = .int .u8 (h : Nat) ∧ v9 = .int .i64 (i : Nat) ∧ i ≤ s.size ∧ l < 256 ∧ h < 256 ∧ ((i = 1 → sc < 128) ∧ (i = 2 → sc < 8192) ∧ (i = 3 → sc < 524288)) ∧ tkGo s m gk i sc l h = R ∧ wC = wq)
    case atStart => exact ⟨1, sc0, lo, hi, by omega, Nat.le_refl _, rfl, rfl, rfl, rfl, by omega, by omega, by omega, ⟨fun _ => hsc, by omega, by omega⟩, HRS.out, rfl⟩
    case round =>
      obtain ⟨i, sc, l, h, hk, h1, rfl, rfl, rfl, rfl, hin, hl, hh, hb3, htk, rfl⟩ := hrel
      have HK := hid htk
      clear htk HRS
      by_cases hlt : i ≤ m
      · obtain ⟨gk, rfl⟩ : ∃ q, gk = q + 1 := ⟨gk - 1, by omega⟩
        have HST := hid (show (if i = s.size ∨ byN s i < l ∨ h < byN s i then ((-1 : Int), i) else tkGo s m gk (i + 1) (64 * sc + byN s i % 64) 128 191) = R from HK.out)
        have hltI : (i : Int) ≤ (m : Int) := by omega
        clear HK
        by_cases hend : i = s.size
        · have HRE := hid (show R = (-1, i) by rw [← HST.out, if_pos (.inl hend)])
          have hd : decide ((i : Int) = (s.size : Int)) = true := decide_eq_true (by omega)
          clear HST
          go_wp2
          go_ret2
          exact ⟨by rw [HRE.out]; rfl, T.out⟩
        · have hd : decide ((i : Int) = (s.size : Int)) = false := decide_eq_false (by omega)
          have hd2 : ((i : Int) == (s.size : Int)) = false := by rw [beq_eq_false_iff_ne]; omega
          have hii : i < s.size := by omega
          have hiI : (i : Int) < (s.size : Int) := by omega
          have hbi := by_get s i hii
          have HBI := hid hbi
          have hbl := by_lt s i
          by_cases hlo : byN s i < l
          · have HRE := hid (show R = (-1, i) by rw [← HST.out, if_pos (.inr (.inl hlo))])
            have k1 : (s[i].toNat : Int) < (l : Int) := by rw [hbi]; omega
            clear HST hbi
            go_wp2
            go_ret2
            exact ⟨by rw [HRE.out]; rfl, T.out⟩
          · have k1 : (l : Int) ≤ (s[i].toNat : Int) := by rw [hbi]; omega
            by_cases hhi : h < byN s i
            · have HRE := hid (show R = (-1, i) by rw [← HST.out, if_pos (.inr (.inr hhi))])
              have k2 : (h : Int) < (s[i].toNat : Int) := by rw [hbi]; omega
              clear HST hbi
              go_wp2
              go_ret2
              exact ⟨by rw [HRE.out]; rfl, T.out⟩
            · have k2 : (s[i].toNat : Int) ≤ (h : Int) := by rw [hbi]; omega
              have HRE := hid (show tkGo s m gk (i + 1) (64 * sc + byN s i % 64) 128 191 = R by rw [← HST.out, if_neg (by omega)])
              have HNX := hid (next_six sc (byN s i) (by omega))
              clear HST hbi
              go_wp2
              go_roundg gk
              case measure => omega
              case rel => exact ⟨i + 1, 64 * sc + byN s i % 64, 128, 191, by omega, by omega, by rw [HBI.out, HNX.out], rfl, rfl, by go_num, by omega, by omega, by omega, ⟨by omega, by omega, by omega⟩, HRE.out, rfl⟩
      · obtain rfl : gk = 0 := by omega
        have HRE := hid (show R = ((sc : Int), 1 + m) from HK.out.symm)
        have hltI : ¬ ((i : Int) ≤ (m : Int)) := by omega
        have z0 : IntKind.i64.wrap (1 + (m : Int)) = 1 + (m : Int) := by rw [IntKind.wrap_i64]; omega
        go_wp2_with fail
        go_quiet (fail)
        go_wp2
        go_ret2
        exact ⟨by rw [HRE.out]; rfl, T.out.drewN _⟩
end Go.Proofs.YtpjnnbegimaaeaaDoor

/- The other takers: pairs of bytes, and the rest of a text; conditions: those told. -/
namespace Go.Proofs.YtpjnnbegimaaeaaDoor
open Go.RowKit

set_option maxRecDepth 100000 in
theorem isHalf_any (r : Int) (w : World) : Calls Tryd.prog 39 #[.int .i64 r] w fun e w' => e = .returned (.bool (decide (55296 ≤ r) && decide (r < 57344))) ∧ w = w' := by
  by_cases h1 : 55296 ≤ r
  · by_cases h2 : r < 57344
    · go_enter Tryd.func39, Tryd.ntmps39
      go_wp2
      go_ret
      exact ⟨by simp [h1, h2], rfl⟩
    · have k2 : decide (r < 57344) = false := decide_eq_false h2
      go_enter Tryd.func39, Tryd.ntmps39
      go_wp2
      go_ret
      exact ⟨by simp, rfl⟩
  · have k1 : decide (55296 ≤ r) = false := decide_eq_false h1
    go_enter Tryd.func39, Tryd.ntmps39
    go_wp2
    go_ret
    exact ⟨by simp, rfl⟩

/-- A number by its two halves, or what is wrong. -/
def tk16 (U : Nat → Int) (i : Nat) : Int × Nat :=
  if U i = -1 then (-1, 1)
  else if ¬ (55296 ≤ U i ∧ U i < 57344) then (U i, 2)
  else if 56320 ≤ U i ∨ U (i + 2) < 56320 ∨ 57344 ≤ U (i + 2) then (-1, 2)
  else (65536 + (U i - 55296) * 1024 + U (i + 2) - 56320, 4)

set_option maxRecDepth 100000 in
set_option maxHeartbeats 4000000 in
theorem pair_any (U : Nat → Int) (bd bl bh i : Nat) (w : World) (hi : i ≤ 140737488351232) (hU : ∀ j, -1 ≤ U j ∧ U j ≤ 65535)
    (hc : ∀ wq, Touch (fun _ => False) w wq → ∀ j : Nat, j ≤ 140737488351240 → Calls Tryd.prog 43 (#[.int .i64 j] ++ #[.pointer (some ⟨bd, 0, none⟩), .pointer (some ⟨bl, 0, none⟩), .pointer (some ⟨bh, 0, none⟩)]) wq fun e w' => e = .returned (.int .i64 (U j)) ∧ Touch (fun _ => False) wq w') :
    Calls Tryd.prog 28 #[.func (.func 43) #[] #[.pointer (some ⟨bd, 0, none⟩), .pointer (some ⟨bl, 0, none⟩), .pointer (some ⟨bh, 0, none⟩)], .int .i64 i] w fun e w' => e = .returned (.tuple #[.int .i64 (tk16 U i).1, .int .i64 ((tk16 U i).2 : Nat)]) ∧ Touch (fun _ => False) w w' := by
  have HC := hid hc
  have K1 := hid (hc w (Touch.refl _ w) i (by omega))
  have hu := hU i
  have hv := hU (i + 2)
  obtain ⟨R, hR⟩ : ∃ R, tk16 U i = R := ⟨_, rfl⟩
  have HR := hid hR
  unfold tk16 at hR
  rw [HR.out]
  clear hc HR
  obtain ⟨j, hj⟩ : ∃ j, j = i + 2 := ⟨_, rfl⟩
  have hji : (j : Int) = (i : Int) + 2 := by omega
  have hjb : j ≤ 140737488351240 := by omega
  rw [← hj] at hR hv
  clear hj
  obtain ⟨u, hu0⟩ : ∃ u, U i = u := ⟨_, rfl⟩
  rw [hu0] at hR hu K1
  have KV := hid (fun wq tq => HC.out wq tq j hjb)
  obtain ⟨v, hv0⟩ : ∃ v, U j = v := ⟨_, rfl⟩
  rw [hv0] at hR hv KV
  rw [hji] at KV
  clear hu0 hv0 HC hU hji hjb
  have HR := hid hR
  clear hR
  go_enter Tryd.func28, Tryd.ntmps28
  go_wp2_with fail
  refine K1.out.mono ?_
  rintro e w1 ⟨rfl, tc⟩
  have T := hid tc
  clear tc K1
  by_cases h1 : u = -1
  · subst h1
    have HE := hid (show R = (-1, 1) by rw [← HR.out, if_pos rfl])
    go_wp2
    go_ret2
    exact ⟨by rw [HE.out]; rfl, T.out⟩
  have hd1 : decide (u = -1) = false := decide_eq_false h1
  have hd1' : (u == -1) = false := by simpa using h1
  rw [if_neg h1] at HR
  have KH := hid (isHalf_any u w1)
  by_cases h2 : 55296 ≤ u ∧ u < 57344
  · rw [show (decide (55296 ≤ u) && decide (u < 57344)) = true by simp [h2]] at KH
    rw [if_neg (fun k => k h2)] at HR
    obtain ⟨h2a, h2b⟩ := h2
    go_wp2_with fail
    refine KH.out.mono ?_
    rintro e w1 ⟨rfl, rfl⟩
    go_wp2_with fail
    refine (KV.out w1 T.out).mono ?_
    rintro e w2 ⟨rfl, tc⟩
    replace T := hid (T.out.trans tc (fun _ _ e => e))
    clear tc KV KH
    by_cases h3 : 56320 ≤ u
    · have HE := hid (show R = (-1, 2) by rw [← HR.out, if_pos (.inl h3)])
      go_wp2
      go_ret2
      exact ⟨by rw [HE.out]; rfl, T.out⟩
    · by_cases h4 : v < 56320
      · have HE := hid (show R = (-1, 2) by rw [← HR.out, if_pos (.inr (.inl h4))])
        go_wp2
        go_ret2
        exact ⟨by rw [HE.out]; rfl, T.out⟩
      · by_cases h5 : 57344 ≤ v
        · have HE := hid (show R = (-1, 2) by rw [← HR.out, if_pos (.inr (.inr h5))])
          go_wp2
          go_ret2
          exact ⟨by rw [HE.out]; rfl, T.out⟩
        · have HE := hid (show R = (65536 + (u - 55296) * 1024 + v - 56320, 4) by rw [← HR.out, if_neg (by omega)])
          go_wp2
          go_ret2
          exact ⟨by rw [HE.out]; rfl, T.out⟩
  · rw [show (decide (55296 ≤ u) && decide (u < 57344)) = false by simp; omega] at KH
    have HE := hid (show R = (u, 2) by rw [← HR.out, if_pos h2])
    clear h2
    go_wp2_with fail
    refine KH.out.mono ?_
    rintro e w1 ⟨rfl, rfl⟩
    go_wp2
    go_ret2
    exact ⟨by rw [HE.out]; rfl, T.out⟩

set_option maxRecDepth 100000 in
theorem take_rest (b i : Nat) (s : ByteArray) (w : World) (ht : Tabs w) (hd : w.cell? ⟨b, 0, none⟩ = some (.string s)) (hi : i < s.size) (hs : s.size ≤ 140737488351232) :
    Calls Tryd.prog 30 (#[.int .i64 i] ++ #[.pointer (some ⟨b, 0, none⟩)]) w fun e w' => e = .returned (.tuple #[.int .i64 (tk8 (s.extract i s.size)).1, .int .i64 ((tk8 (s.extract i s.size)).2 : Nat)]) ∧ Touch (fun _ => False) w w' := by
  have hsz : (s.extract i s.size).size = s.size - i := by rw [ByteArray.size_extract]; omega
  have K := hid (take8_any (s.extract i s.size) (by omega) (by omega) w ht)
  have hiI : (i : Int) ≤ (s.size : Int) := by omega
  generalize tk8 (s.extract i s.size) = R at *
  clear ht hsz
  go_enter Tryd.func30, Tryd.ntmps30
  go_wp2_with fail
  refine K.out.mono ?_
  rintro e w1 ⟨rfl, tc⟩
  have T := hid tc
  clear tc K
  go_wp2
  go_ret2
  exact ⟨rfl, T.out⟩

set_option maxRecDepth 100000 in
theorem take_pair (U : Nat → Int) (b bd bl bh i : Nat) (w : World) (hi : i ≤ 140737488351232) (hU : ∀ j, -1 ≤ U j ∧ U j ≤ 65535) (hb : w.cell? ⟨b, 0, none⟩ = some (.func (.func 43) #[] #[.pointer (some ⟨bd, 0, none⟩), .pointer (some ⟨bl, 0, none⟩), .pointer (some ⟨bh, 0, none⟩)]))
    (hc : ∀ wq, Touch (fun _ => False) w wq → ∀ j : Nat, j ≤ 140737488351240 → Calls Tryd.prog 43 (#[.int .i64 j] ++ #[.pointer (some ⟨bd, 0, none⟩), .pointer (some ⟨bl, 0, none⟩), .pointer (some ⟨bh, 0, none⟩)]) wq fun e w' => e = .returned (.int .i64 (U j)) ∧ Touch (fun _ => False) wq w') :
    Calls Tryd.prog 27 (#[.int .i64 i] ++ #[.pointer (some ⟨b, 0, none⟩)]) w fun e w' => e = .returned (.tuple #[.int .i64 (tk16 U i).1, .int .i64 ((tk16 U i).2 : Nat)]) ∧ Touch (fun _ => False) w w' := by
  have K := hid (pair_any U bd bl bh i w hi hU hc)
  generalize tk16 U i = R at *
  clear hc hU
  go_enter Tryd.func27, Tryd.ntmps27
  go_wp2_with fail
  refine K.out.mono ?_
  rintro e w1 ⟨rfl, tc⟩
  have T := hid tc
  clear tc K
  go_wp2
  go_ret2
  exact ⟨rfl, T.out⟩
end Go.Proofs.YtpjnnbegimaaeaaDoor
