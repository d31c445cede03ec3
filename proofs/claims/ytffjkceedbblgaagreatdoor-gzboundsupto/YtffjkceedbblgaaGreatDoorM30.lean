/- Texts of this proof, one behind the other: what each says stands ahead of it. -/
import Derived.Test.YtffjkceedbblgaaGreatDoorM21
import Derived.Test.YtffjkceedbblgaaGreatDoorM28
import Derived.Test.YtffjkceedbblgaaGreatDoorM10
import Derived.Shelf.Strings.Prefix
import Derived.Laws.Externs
import Derived.Deep.RegionWith
/- A reader of parts: number, fault, take, Is; conditions: those told. -/
namespace Go.Proofs.YtffjkceedbblgaaGreatDoor
open Go.RowKit

theorem num_snoc (s : ByteArray) : ∀ n p, Gz.num s p (n + 1) = Gz.num s p n + 256 ^ n * Bt.byteN s (p + n)
  | 0, p => by simp [Gz.num]
  | n + 1, p => by
    rw [Gz.num, num_snoc s n (p + 1), Gz.num, Nat.pow_succ, show p + 1 + n = p + (n + 1) by omega, Nat.mul_add, Nat.mul_comm (256 ^ n) 256, Nat.mul_assoc]
    omega
theorem or_low (a b k : Nat) (ha : a < 2 ^ k) (hb : 2 ^ k * b + a < 2 ^ 62) : bits .or .i64 (a : Int) ((2 ^ k * b : Nat) : Int) = ((a + 2 ^ k * b : Nat) : Int) := by
  rw [i64_or_nat _ _ (by omega) (by omega), Nat.or_comm, ← Nat.two_pow_add_eq_or_of_lt ha, Nat.add_comm]
set_option maxRecDepth 100000 in
set_option maxHeartbeats 4000000 in
/-- number, of at most four bytes. -/
theorem number_any (s : ByteArray) (hs : s.size ≤ 4) (w : World) : Calls Tryz.prog 51 #[.string s] w fun e w' => e = .returned (.int .i64 ((Gz.num s 0 s.size : Nat) : Int)) ∧ w = w' := by
  go_enter Tryz.func51, Tryz.ntmps51
  go_wp2_with fail
  go_loopg [3, 7] s.size (fun gk v3 v7 wq => ∃ i : Nat, i + gk = s.size ∧ v7 = .int .i64 (i : Nat) ∧ v3 = .int .i64 ((Gz.num s 0 i : Nat) : Int) ∧ w = wq)
  case atStart => exact ⟨0, by omega, rfl, rfl, rfl⟩
  case round =>
    obtain ⟨i, hi, rfl, rfl, rfl⟩ := hrel
    by_cases hlt : i < s.size
    · obtain ⟨gk, rfl⟩ : ∃ j, gk = j + 1 := ⟨gk - 1, by omega⟩
      have hltI : (i : Int) < (s.size : Int) := by omega
      have hbg := byte_get s i hlt
      have hb := Bt.byteN_lt s i
      have HN := hid (num_snoc s i 0)
      have hc := Gz.num_lt s i 0
      rw [Nat.zero_add] at HN
      generalize Gz.num s 0 i = c at *
      generalize Bt.byteN s i = b at *
      rcases (show i = 0 ∨ i = 1 ∨ i = 2 ∨ i = 3 by omega) with rfl | rfl | rfl | rfl
      · have ho := or_low c b 0 hc (by omega)
        rw [show ((2 ^ 0 * b : Nat) : Int) = (b : Int) by omega] at ho
        replace HN := hid (show Gz.num s 0 1 = c + 2 ^ 0 * b from HN.out)
        obtain ⟨n, hn⟩ : ∃ n, n = c + 2 ^ 0 * b := ⟨_, rfl⟩
        rw [← hn] at ho HN
        clear hn
        go_wp2
        go_roundg gk
        case measure => omega
        case rel => exact ⟨1, by omega, by go_num, by rw [HN.out], rfl⟩
      · have ho := or_low c b 8 hc (by omega)
        rw [show ((2 ^ 8 * b : Nat) : Int) = (b : Int) * 256 by omega] at ho
        replace HN := hid (show Gz.num s 0 2 = c + 2 ^ 8 * b from HN.out)
        obtain ⟨n, hn⟩ : ∃ n, n = c + 2 ^ 8 * b := ⟨_, rfl⟩
        rw [← hn] at ho HN
        clear hn
        go_wp2
        go_roundg gk
        case measure => omega
        case rel => exact ⟨2, by omega, by go_num, by rw [HN.out], rfl⟩
      · have ho := or_low c b 16 hc (by omega)
        rw [show ((2 ^ 16 * b : Nat) : Int) = (b : Int) * 65536 by omega] at ho
        replace HN := hid (show Gz.num s 0 3 = c + 2 ^ 16 * b from HN.out)
        obtain ⟨n, hn⟩ : ∃ n, n = c + 2 ^ 16 * b := ⟨_, rfl⟩
        rw [← hn] at ho HN
        clear hn
        go_wp2
        go_roundg gk
        case measure => omega
        case rel => exact ⟨3, by omega, by go_num, by rw [HN.out], rfl⟩
      · have ho := or_low c b 24 hc (by omega)
        rw [show ((2 ^ 24 * b : Nat) : Int) = (b : Int) * 16777216 by omega] at ho
        replace HN := hid (show Gz.num s 0 4 = c + 2 ^ 24 * b from HN.out)
        obtain ⟨n, hn⟩ : ∃ n, n = c + 2 ^ 24 * b := ⟨_, rfl⟩
        rw [← hn] at ho HN
        clear hn
        go_wp2
        go_roundg gk
        case measure => omega
        case rel => exact ⟨4, by omega, by go_num, by rw [HN.out], rfl⟩
    · have hltI : ¬ ((i : Int) < (s.size : Int)) := by omega
      obtain rfl : i = s.size := by omega
      go_wp2
      go_ret
      exact ⟨rfl, rfl⟩
end Go.Proofs.YtffjkceedbblgaaGreatDoor

/- A reader of parts: Is, fault, take, extra, name; conditions: those told. -/
namespace Go.Proofs.YtffjkceedbblgaaGreatDoor
open Go.RowKit

/-- A reader of parts of s that stands at t. -/
def Gr (w : World) (b : Nat) (s : ByteArray) (t : Nat) : Prop := w.heap[b]? = some (.cells #[.string s, .int .i64 (t : Nat)] 55 (0, 0))
theorem Gr.c0 {w : World} {b : Nat} {s : ByteArray} {t : Nat} (r : Gr w b s t) : w.cell? ⟨b, 0, none⟩ = some (.string s) := cell_two0 r
theorem Gr.c1 {w : World} {b : Nat} {s : ByteArray} {t : Nat} (r : Gr w b s t) : w.cell? ⟨b, 1, none⟩ = some (.int .i64 (t : Nat)) := cell_two1 r
theorem Gr.f1 {w : World} {b : Nat} {s : ByteArray} {t : Nat} (r : Gr w b s t) : w.frozen? ⟨b, 1, none⟩ = false := free_two r
theorem Gr.lt {w : World} {b : Nat} {s : ByteArray} {t : Nat} (r : Gr w b s t) : b < w.heap.size := lt_of_block r
theorem Gr.new {w w' : World} {b : Nat} {s : ByteArray} {t : Nat} {S : Nat → Prop} (r : Gr w b s t) (h : Touch S w w') (hn : ¬ S b) : Gr w' b s t := (h.block b r.lt hn).trans r
/-- It has gone on to t'; of what was there only its block may have turned. -/
structure GStep (w w' : World) (b : Nat) (s : ByteArray) (t : Nat) : Prop where
  gr : Gr w' b s t
  touch : Touch (fun k => k = b) w w'
theorem Gr.set {w w' : World} {b : Nat} {s : ByteArray} {t : Nat} (r : Gr w b s t) (h : Touch (fun _ => False) w w') (t' : Nat) : GStep w (w'.setCell ⟨b, 1, none⟩ (.int .i64 (t' : Nat))) b s t' :=
  ⟨two_set1 (r.new h id), (h.mono (S' := fun k => k = b) (fun _ _ e => e.elim)).setCell (p := ⟨b, 1, none⟩) (fun _ => rfl) _⟩
theorem results_tc {P : Program} {fn : Func} {t p : Tmp} {ty : TypeId} (h : fn.results = #[.tmp t, .cell p ty]) (tmps : Array Value) (w : World) (g : Nat) (et : TypeId) (cs : Array Value) (fr : Nat × Nat) (d : TypeDesc)
    (hp : tmps.getD p undef = .pointer (some ⟨g, 0, none⟩)) (hg : w.heap[g]? = some (.cells cs et fr))
    (hu : P.underlying ty = some d) (hd : (match d with | .struct _ | .array _ _ => true | _ => false) = true) (hi : (P.info? ty).map (·.size) = some cs.size) :
    (results fn tmps).run P w = .ok (.tuple #[tmps.getD t undef, .agg cs]) w := by
  have hp' : tmps[p]?.getD undef = .pointer (some ⟨g, 0, none⟩) := by simpa using hp
  simp [results, h, hp', asAddr, run_loadVar_row w g et ty cs fr d hg hu hd hi]
theorem results_cc {P : Program} {fn : Func} {p q : Tmp} {ty tz : TypeId} (h : fn.results = #[.cell p ty, .cell q tz]) (tmps : Array Value) (w : World) (g : Nat) (et : TypeId) (cs : Array Value) (fr : Nat × Nat) (d : TypeDesc)
    (g2 : Nat) (et2 : TypeId) (cs2 : Array Value) (fr2 : Nat × Nat) (d2 : TypeDesc)
    (hp : tmps.getD p undef = .pointer (some ⟨g, 0, none⟩)) (hg : w.heap[g]? = some (.cells cs et fr))
    (hu : P.underlying ty = some d) (hd : (match d with | .struct _ | .array _ _ => true | _ => false) = true) (hi : (P.info? ty).map (·.size) = some cs.size)
    (hp2 : tmps.getD q undef = .pointer (some ⟨g2, 0, none⟩)) (hg2 : w.heap[g2]? = some (.cells cs2 et2 fr2))
    (hu2 : P.underlying tz = some d2) (hd2 : (match d2 with | .struct _ | .array _ _ => true | _ => false) = true) (hi2 : (P.info? tz).map (·.size) = some cs2.size) :
    (results fn tmps).run P w = .ok (.tuple #[.agg cs, .agg cs2]) w := by
  have hp' : tmps[p]?.getD undef = .pointer (some ⟨g, 0, none⟩) := by simpa using hp
  have hp2' : tmps[q]?.getD undef = .pointer (some ⟨g2, 0, none⟩) := by simpa using hp2
  simp [results, h, hp', hp2', asAddr, run_loadVar_row w g et ty cs fr d hg hu hd hi, run_loadVar_row w g2 et2 tz cs2 fr2 d2 hg2 hu2 hd2 hi2]
theorem results_ctc {P : Program} {fn : Func} {p t q : Tmp} {ty tz : TypeId} (h : fn.results = #[.cell p ty, .tmp t, .cell q tz]) (tmps : Array Value) (w : World) (g : Nat) (et : TypeId) (cs : Array Value) (fr : Nat × Nat) (d : TypeDesc)
    (g2 : Nat) (et2 : TypeId) (cs2 : Array Value) (fr2 : Nat × Nat) (d2 : TypeDesc)
    (hp : tmps.getD p undef = .pointer (some ⟨g, 0, none⟩)) (hg : w.heap[g]? = some (.cells cs et fr))
    (hu : P.underlying ty = some d) (hd : (match d with | .struct _ | .array _ _ => true | _ => false) = true) (hi : (P.info? ty).map (·.size) = some cs.size)
    (hp2 : tmps.getD q undef = .pointer (some ⟨g2, 0, none⟩)) (hg2 : w.heap[g2]? = some (.cells cs2 et2 fr2))
    (hu2 : P.underlying tz = some d2) (hd2 : (match d2 with | .struct _ | .array _ _ => true | _ => false) = true) (hi2 : (P.info? tz).map (·.size) = some cs2.size) :
    (results fn tmps).run P w = .ok (.tuple #[.agg cs, tmps.getD t undef, .agg cs2]) w := by
  have hp' : tmps[p]?.getD undef = .pointer (some ⟨g, 0, none⟩) := by simpa using hp
  have hp2' : tmps[q]?.getD undef = .pointer (some ⟨g2, 0, none⟩) := by simpa using hp2
  simp [results, h, hp', hp2', asAddr, run_loadVar_row w g et ty cs fr d hg hu hd hi, run_loadVar_row w g2 et2 tz cs2 fr2 d2 hg2 hu2 hd2 hi2]
def isB (s : ByteArray) : Bool := decide (2 ≤ s.size) && (Bt.byteN s 0 == 31 && Bt.byteN s 1 == 139)
theorem two_bytes (s : ByteArray) (h : 2 ≤ s.size) : ((s.extract 0 2).toList == [31, 139]) = (Bt.byteN s 0 == 31 && Bt.byteN s 1 == 139) := by
  have h1 : (s.extract 0 2).data.toList = [s[0], s[1]] := by
    rw [ByteArray.data_extract, Array.toList_extract, List.extract_eq_take_drop]
    apply List.ext_getElem
    · simp
      omega
    · intro i hi1 hi2
      simp at hi2
      rcases (show i = 0 ∨ i = 1 by omega) with rfl | rfl <;> simp <;> rfl
  rw [Lib.toList_data, h1, ← byte_get s 0 (by omega), ← byte_get s 1 (by omega), Bool.eq_iff_iff]
  simp [← UInt8.toNat_inj]
set_option maxRecDepth 100000 in
theorem hasP_inner (s : ByteArray) (w : World) : Calls Tryz.prog 20 #[.string s, .string ⟨#[31, 139]⟩] w fun e w' => e = .returned (.bool (isB s)) ∧ w = w' := by
  by_cases h : 2 ≤ s.size
  · have hI : (2 : Int) ≤ (s.size : Int) := by omega
    have he : isB s = ((s.extract 0 2).toList == [31, 139]) := by unfold isB; rw [two_bytes s h]; simp [h]
    rw [he]
    go_enter Tryz.func20, Tryz.ntmps20
    go_wp2
    go_ret
    exact ⟨rfl, rfl⟩
  · have hI : ¬ ((2 : Int) ≤ (s.size : Int)) := by omega
    have he : isB s = false := by simp [isB, h]
    rw [he]
    go_enter Tryz.func20, Tryz.ntmps20
    go_wp2
    go_ret
    exact ⟨rfl, rfl⟩
theorem is_any (s : ByteArray) (w : World) : Calls Tryz.prog 7 #[.string s] w fun e w' => e = .returned (.bool (isB s)) ∧ w = w' := by
  have K : ∀ w, Calls Tryz.prog 11 #[.string s, .string ⟨#[31, 139]⟩] w fun e w' => e = .returned (.bool (isB s)) ∧ w = w' := by
    intro w
    have K := hid (hasP_inner s w)
    go_enter Tryz.func11, Tryz.ntmps11
    go_wp2_with fail
    refine K.out.mono ?_
    rintro e w1 ⟨rfl, rfl⟩
    clear K
    go_wp2
    go_ret
    exact ⟨rfl, rfl⟩
  have K2 := hid (K w)
  clear K
  go_enter Tryz.func7, Tryz.ntmps7
  go_wp2_with fail
  refine K2.out.mono ?_
  rintro e w1 ⟨rfl, rfl⟩
  clear K2
  go_wp2
  go_ret
  exact ⟨rfl, rfl⟩
theorem fault_any (b : Nat) (s : ByteArray) (t c : Nat) (w : World) (r : Gr w b s t) : Calls Tryz.prog 18 #[.pointer (some ⟨b, 0, none⟩), .int .i64 (c : Nat)] w fun e w' => e = .returned (.agg #[.int .i64 (c : Nat), .int .i64 (t : Nat)]) ∧ Touch (fun _ => False) w w' := by
  have c1 := (r.new ((Touch.refl (fun _ => False) w).alloc (.cells #[.int .i64 0, .int .i64 0] 31)) id).c1
  have FB := hid (two_new (w := w) (.int .i64 (c : Nat)) (.int .i64 (t : Nat)) 31)
  clear r
  go_enter Tryz.func18, Tryz.ntmps18
  go_wp2
  refine bodyPost_ret (results_c rfl _ _ w.heap.size 31 _ (0, 0) _ rfl FB.out Tryz.underlying31 rfl (by kernel_rfl)) rfl ?_
  exact ⟨rfl, (Touch.refl _ w).alloc _⟩
set_option maxHeartbeats 4000000 in
theorem gtake_no (b : Nat) (s : ByteArray) (t n : Nat) (w : World) (r : Gr w b s t) (_hs : s.size ≤ 140737488355328) (_hn : n ≤ 140737488355328) (ht : t ≤ s.size) (h : s.size < t + n) :
    Calls Tryz.prog 50 #[.pointer (some ⟨b, 0, none⟩), .int .i64 (n : Nat)] w fun e w' => e = .returned (.tuple #[.string ⟨#[]⟩, .bool false]) ∧ Touch (fun _ => False) w w' := by
  have c0 := r.c0
  have c1 := r.c1
  have hI : (s.size : Int) - (t : Int) < (n : Int) := by omega
  clear r
  go_enter Tryz.func50, Tryz.ntmps50
  go_wp2
  go_region
  all_goals go_wp2
  all_goals go_ret2
  all_goals exact ⟨rfl, (Touch.refl _ w).drew⟩
set_option maxHeartbeats 4000000 in
theorem gtake_yes (b : Nat) (s : ByteArray) (t n : Nat) (w : World) (r : Gr w b s t) (hs : s.size ≤ 140737488355328) (h : t + n ≤ s.size) :
    Calls Tryz.prog 50 #[.pointer (some ⟨b, 0, none⟩), .int .i64 (n : Nat)] w fun e w' => e = .returned (.tuple #[.string (s.extract t (t + n)), .bool true]) ∧ GStep w w' b s (t + n) := by
  have c0 := r.c0
  have c1 := r.c1
  have f1 := r.f1
  have R := hid r
  have hI : ¬ ((s.size : Int) - (t : Int) < (n : Int)) := by omega
  obtain ⟨m, hm⟩ : ∃ m, m = t + n := ⟨_, rfl⟩
  have hw : IntKind.i64.wrap ((t : Int) + (n : Int)) = (m : Int) := by rw [IntKind.wrap_i64]; omega
  have h1 : t ≤ m := by omega
  have h2 : m ≤ s.size := by omega
  rw [← hm]
  clear r hm h
  go_enter Tryz.func50, Tryz.ntmps50
  go_wp2
  go_region
  go_wp2
  go_region
  go_wp2
  go_ret2
  exact ⟨rfl, R.out.set (((Touch.refl _ w).drew).drew) m⟩
end Go.Proofs.YtffjkceedbblgaaGreatDoor

/- A reader of parts: extra and name; conditions: those told. -/
namespace Go.Proofs.YtffjkceedbblgaaGreatDoor
open Go.RowKit

theorem fset {w' : World} {q : Nat} {u v : Value} {ty : TypeId} (h : w'.heap[q]? = some (.cells #[u, v] ty (0, 0))) (x y : Value) : ((w'.setCell ⟨q, 0, none⟩ x).setCell ⟨q, 1, none⟩ y).heap[q]? = some (.cells #[x, y] ty (0, 0)) := two_set1 (two_set0 h)
theorem ftouch {S : Nat → Prop} {w w' : World} {q : Nat} (T : Touch S w w') (hq : w.heap.size ≤ q) (x y : Value) : Touch S w ((w'.setCell ⟨q, 0, none⟩ x).setCell ⟨q, 1, none⟩ y) :=
  (T.setCell (p := ⟨q, 0, none⟩) (fun h => absurd h (Nat.not_lt.2 hq)) x).setCell (p := ⟨q, 1, none⟩) (fun h => absurd h (Nat.not_lt.2 hq)) y
theorem Gr.fset {w : World} {b q : Nat} {s : ByteArray} {t : Nat} (r : Gr w b s t) (h : b ≠ q) (x y : Value) : Gr ((w.setCell ⟨q, 0, none⟩ x).setCell ⟨q, 1, none⟩ y) b s t := by
  unfold Gr
  rw [Below.heap_setCell _ _ _ _ h, Below.heap_setCell _ _ _ _ h]
  exact r
theorem Touch.one {w w' : World} (T : Touch (fun _ => False) w w') (b : Nat) : Touch (fun k => k = b) w w' := T.mono (fun _ _ e => e.elim)
set_option maxRecDepth 100000 in
set_option maxHeartbeats 8000000 in
theorem extra_no1 (b : Nat) (s : ByteArray) (t : Nat) (w : World) (r : Gr w b s t) (hs : s.size ≤ 70368744177664) (ht : t ≤ s.size) (h : s.size < t + 2) :
    Calls Tryz.prog 52 #[.pointer (some ⟨b, 0, none⟩)] w fun e w' => e = .returned (.tuple #[.string ⟨#[]⟩, .agg #[.int .i64 3, .int .i64 (t : Nat)]]) ∧ Touch (fun k => k = b) w w' := by
  have T0 := hid ((Touch.refl (fun _ => False) w).alloc (.cells #[.int .i64 0, .int .i64 0] 31))
  have R0 := hid (r.new T0.out id)
  have FB0 := hid (two_new (w := w) (.int .i64 0) (.int .i64 0) 31)
  have HB := hid r.lt
  clear r
  go_enter Tryz.func52, Tryz.ntmps52
  go_wp2_with fail
  generalize w.alloc (.cells #[.int .i64 0, .int .i64 0] 31) = w0 at *
  obtain ⟨q, hq⟩ : ∃ q, q = w.heap.size := ⟨_, rfl⟩
  rw [← hq] at FB0 ⊢
  have HQ := hid (show w.heap.size ≤ q ∧ b < q from ⟨by omega, by have := HB.out; omega⟩)
  clear hq HB
  refine (fault_any b s t 3 w0 R0.out).mono ?_
  rintro e w1 ⟨rfl, t1⟩
  have T1 := hid (T0.out.trans t1 (fun _ _ e => e))
  have R1 := hid (R0.out.new t1 id)
  have FB1 := hid ((t1.block q (lt_of_block FB0.out) id).trans FB0.out)
  clear t1 T0 R0 FB0
  have T2 := hid (T1.out.alloc (.cells #[.int .i64 3, .int .i64 (t : Nat)] 31))
  have R2 := hid (R1.out.new ((Touch.refl (fun _ => False) w1).alloc (.cells #[.int .i64 3, .int .i64 (t : Nat)] 31)) id)
  have FB2 := hid ((((Touch.refl (fun _ => False) w1).alloc (.cells #[.int .i64 3, .int .i64 (t : Nat)] 31)).block q (lt_of_block FB1.out) id).trans FB1.out)
  have CB2 := hid (two_new (w := w1) (.int .i64 3) (.int .i64 (t : Nat)) 31)
  have HC := hid (show q < w1.heap.size from lt_of_block FB1.out)
  clear T1 R1 FB1
  go_wp2_with fail
  generalize w1.alloc (.cells #[.int .i64 3, .int .i64 (t : Nat)] 31) = w2 at *
  obtain ⟨cq, hcq⟩ : ∃ cq, cq = w1.heap.size := ⟨_, rfl⟩
  rw [← hcq] at CB2 HC ⊢
  clear hcq
  refine (gtake_no b s t 2 w2 R2.out (by omega) (by omega) ht h).mono ?_
  rintro e w3 ⟨rfl, t3⟩
  have T3 := hid (T2.out.trans t3 (fun _ _ e => e))
  have fb3 := (t3.block q (lt_of_block FB2.out) id).trans FB2.out
  have cb3 := (t3.block cq (lt_of_block CB2.out) id).trans CB2.out
  clear t3 T2 R2 FB2 CB2
  have k0 := cell_two0 cb3
  have k1 := cell_two1 cb3
  have g0 := cell_two0 fb3
  have g1 := cell_two1 fb3
  have gf0 := free_two (i := 0) fb3
  have gf1 := free_two (i := 1) fb3
  have FB3 := hid fb3
  clear fb3 cb3
  go_wp2
  go_region
  all_goals go_wp2
  all_goals
    refine bodyPost_ret (results_tc rfl _ _ q 31 _ (0, 0) _ rfl (fset FB3.out _ _) Tryz.underlying31 rfl (by kernel_rfl)) rfl ?_
    exact ⟨rfl, (ftouch (T3.out.one b) HQ.out.1 _ _).drew⟩
set_option maxRecDepth 100000 in
set_option maxHeartbeats 8000000 in
theorem extra_no2 (b : Nat) (s : ByteArray) (t : Nat) (w : World) (r : Gr w b s t) (hs : s.size ≤ 70368744177664) (_ht : t ≤ s.size) (h : t + 2 ≤ s.size) (h2 : s.size < t + 2 + Gz.num s t 2) :
    Calls Tryz.prog 52 #[.pointer (some ⟨b, 0, none⟩)] w fun e w' => e = .returned (.tuple #[.string ⟨#[]⟩, .agg #[.int .i64 3, .int .i64 (t : Nat)]]) ∧ Touch (fun k => k = b) w w' := by
  have hx2 : (s.extract t (t + 2)).size = 2 := by rw [ByteArray.size_extract]; omega
  have hnum : Gz.num (s.extract t (t + 2)) 0 2 = Gz.num s t 2 := by
    rw [← (show Gz.Win (s.extract t (t + 2)) s t from ⟨by omega, fun i hi => (Gz.byteN_extract s t (t + 2) i h (by omega)).symm⟩).num 2 0 (by omega), Nat.add_zero]
  have hnl := Gz.num_lt s 2 t
  have KN := hid (fun w => number_any (s.extract t (t + 2)) (by omega) w)
  rw [hx2] at KN
  simp only [hnum] at KN
  generalize Gz.num s t 2 = n at *
  clear hnum hx2
  have T0 := hid ((Touch.refl (fun _ => False) w).alloc (.cells #[.int .i64 0, .int .i64 0] 31))
  have R0 := hid (r.new T0.out id)
  have FB0 := hid (two_new (w := w) (.int .i64 0) (.int .i64 0) 31)
  have HB := hid r.lt
  clear r
  go_enter Tryz.func52, Tryz.ntmps52
  go_wp2_with fail
  generalize w.alloc (.cells #[.int .i64 0, .int .i64 0] 31) = w0 at *
  obtain ⟨q, hq⟩ : ∃ q, q = w.heap.size := ⟨_, rfl⟩
  rw [← hq] at FB0 ⊢
  have HQ := hid (show w.heap.size ≤ q ∧ b < q from ⟨by omega, by have := HB.out; omega⟩)
  clear hq HB
  refine (fault_any b s t 3 w0 R0.out).mono ?_
  rintro e w1 ⟨rfl, t1⟩
  have T1 := hid (T0.out.trans t1 (fun _ _ e => e))
  have R1 := hid (R0.out.new t1 id)
  have FB1 := hid ((t1.block q (lt_of_block FB0.out) id).trans FB0.out)
  clear t1 T0 R0 FB0
  have T2 := hid (T1.out.alloc (.cells #[.int .i64 3, .int .i64 (t : Nat)] 31))
  have R2 := hid (R1.out.new ((Touch.refl (fun _ => False) w1).alloc (.cells #[.int .i64 3, .int .i64 (t : Nat)] 31)) id)
  have FB2 := hid ((((Touch.refl (fun _ => False) w1).alloc (.cells #[.int .i64 3, .int .i64 (t : Nat)] 31)).block q (lt_of_block FB1.out) id).trans FB1.out)
  have CB2 := hid (two_new (w := w1) (.int .i64 3) (.int .i64 (t : Nat)) 31)
  have HC := hid (show q < w1.heap.size from lt_of_block FB1.out)
  clear T1 R1 FB1
  go_wp2_with fail
  generalize w1.alloc (.cells #[.int .i64 3, .int .i64 (t : Nat)] 31) = w2 at *
  obtain ⟨cq, hcq⟩ : ∃ cq, cq = w1.heap.size := ⟨_, rfl⟩
  rw [← hcq] at CB2 HC ⊢
  clear hcq
  refine (gtake_yes b s t 2 w2 R2.out (by omega) h).mono ?_
  rintro e w3 ⟨rfl, g3⟩
  have T3 := hid ((T2.out.one b).trans g3.touch (fun _ _ e => e))
  have R3 := hid g3.gr
  have FB3 := hid ((g3.touch.block q (lt_of_block FB2.out) (fun e => by have := HQ.out; omega)).trans FB2.out)
  have CB3 := hid ((g3.touch.block cq (lt_of_block CB2.out) (fun e => by have := HQ.out; have := HC.out; omega)).trans CB2.out)
  clear g3 T2 R2 FB2 CB2
  generalize s.extract t (t + 2) = x2 at *
  go_wp2_with fail
  refine (KN.out w3).mono ?_
  rintro e w4 ⟨rfl, rfl⟩
  clear KN
  go_wp2_with fail
  refine (gtake_no b s (t + 2) n w3 R3.out (by omega) (by omega) h h2).mono ?_
  rintro e w5 ⟨rfl, t3⟩
  have T5 := hid (T3.out.trans t3 (fun _ _ e => e.elim))
  have fb3 := (t3.block q (lt_of_block FB3.out) id).trans FB3.out
  have cb3 := (t3.block cq (lt_of_block CB3.out) id).trans CB3.out
  clear t3 T3 R3 FB3 CB3
  have k0 := cell_two0 cb3
  have k1 := cell_two1 cb3
  have g0 := cell_two0 fb3
  have g1 := cell_two1 fb3
  have gf0 := free_two (i := 0) fb3
  have gf1 := free_two (i := 1) fb3
  have FB3 := hid fb3
  clear fb3 cb3
  go_wp2
  go_region
  all_goals go_wp2
  all_goals
    refine bodyPost_ret (results_tc rfl _ _ q 31 _ (0, 0) _ rfl (fset FB3.out _ _) Tryz.underlying31 rfl (by kernel_rfl)) rfl ?_
    exact ⟨rfl, (ftouch T5.out HQ.out.1 _ _).drew⟩
set_option maxRecDepth 100000 in
set_option maxHeartbeats 8000000 in
theorem extra_yes (b : Nat) (s : ByteArray) (t : Nat) (w : World) (r : Gr w b s t) (hs : s.size ≤ 70368744177664) (h : t + 2 ≤ s.size) (h2 : t + 2 + Gz.num s t 2 ≤ s.size) :
    Calls Tryz.prog 52 #[.pointer (some ⟨b, 0, none⟩)] w fun e w' => e = .returned (.tuple #[.string (s.extract (t + 2) (t + 2 + Gz.num s t 2)), .agg #[.int .i64 0, .int .i64 0]]) ∧ GStep w w' b s (t + 2 + Gz.num s t 2) := by
  have hx2 : (s.extract t (t + 2)).size = 2 := by rw [ByteArray.size_extract]; omega
  have hnum : Gz.num (s.extract t (t + 2)) 0 2 = Gz.num s t 2 := by
    rw [← (show Gz.Win (s.extract t (t + 2)) s t from ⟨by omega, fun i hi => (Gz.byteN_extract s t (t + 2) i h (by omega)).symm⟩).num 2 0 (by omega), Nat.add_zero]
  have hnl := Gz.num_lt s 2 t
  have KN := hid (fun w => number_any (s.extract t (t + 2)) (by omega) w)
  rw [hx2] at KN
  simp only [hnum] at KN
  generalize Gz.num s t 2 = n at *
  obtain ⟨x3, hx3⟩ : ∃ x3, x3 = s.extract (t + 2) (t + 2 + n) := ⟨_, rfl⟩
  have KT := hid (fun w (r : Gr w b s (t + 2)) => gtake_yes b s (t + 2) n w r (by omega) h2)
  simp only [← hx3] at KT
  rw [← hx3]
  clear hnum hx2 hx3
  have T0 := hid ((Touch.refl (fun _ => False) w).alloc (.cells #[.int .i64 0, .int .i64 0] 31))
  have R0 := hid (r.new T0.out id)
  have FB0 := hid (two_new (w := w) (.int .i64 0) (.int .i64 0) 31)
  have HB := hid r.lt
  clear r
  go_enter Tryz.func52, Tryz.ntmps52
  go_wp2_with fail
  generalize w.alloc (.cells #[.int .i64 0, .int .i64 0] 31) = w0 at *
  obtain ⟨q, hq⟩ : ∃ q, q = w.heap.size := ⟨_, rfl⟩
  rw [← hq] at FB0 ⊢
  have HQ := hid (show w.heap.size ≤ q ∧ b < q from ⟨by omega, by have := HB.out; omega⟩)
  clear hq HB
  refine (fault_any b s t 3 w0 R0.out).mono ?_
  rintro e w1 ⟨rfl, t1⟩
  have T1 := hid (T0.out.trans t1 (fun _ _ e => e))
  have R1 := hid (R0.out.new t1 id)
  have FB1 := hid ((t1.block q (lt_of_block FB0.out) id).trans FB0.out)
  clear t1 T0 R0 FB0
  have T2 := hid (T1.out.alloc (.cells #[.int .i64 3, .int .i64 (t : Nat)] 31))
  have R2 := hid (R1.out.new ((Touch.refl (fun _ => False) w1).alloc (.cells #[.int .i64 3, .int .i64 (t : Nat)] 31)) id)
  have FB2 := hid ((((Touch.refl (fun _ => False) w1).alloc (.cells #[.int .i64 3, .int .i64 (t : Nat)] 31)).block q (lt_of_block FB1.out) id).trans FB1.out)
  have CB2 := hid (two_new (w := w1) (.int .i64 3) (.int .i64 (t : Nat)) 31)
  have HC := hid (show q < w1.heap.size from lt_of_block FB1.out)
  clear T1 R1 FB1
  go_wp2_with fail
  generalize w1.alloc (.cells #[.int .i64 3, .int .i64 (t : Nat)] 31) = w2 at *
  obtain ⟨cq, hcq⟩ : ∃ cq, cq = w1.heap.size := ⟨_, rfl⟩
  rw [← hcq] at CB2 HC ⊢
  clear hcq
  refine (gtake_yes b s t 2 w2 R2.out (by omega) h).mono ?_
  rintro e w3 ⟨rfl, g3⟩
  have T3 := hid ((T2.out.one b).trans g3.touch (fun _ _ e => e))
  have R3 := hid g3.gr
  have FB3 := hid ((g3.touch.block q (lt_of_block FB2.out) (fun e => by have := HQ.out; omega)).trans FB2.out)
  clear g3 T2 R2 FB2 CB2
  generalize s.extract t (t + 2) = x2 at *
  go_wp2_with fail
  refine (KN.out w3).mono ?_
  rintro e w4 ⟨rfl, rfl⟩
  clear KN
  go_wp2_with fail
  refine (KT.out w3 R3.out).mono ?_
  rintro e w5 ⟨rfl, g3⟩
  have T5 := hid (T3.out.trans g3.touch (fun _ _ e => e))
  have R5 := hid g3.gr
  have fb3 := (g3.touch.block q (lt_of_block FB3.out) (fun e => by have := HQ.out; omega)).trans FB3.out
  clear g3 T3 R3 FB3
  clear KT
  have g0 := cell_two0 fb3
  have g1 := cell_two1 fb3
  have gf0 := free_two (i := 0) fb3
  have gf1 := free_two (i := 1) fb3
  have FB3 := hid fb3
  clear fb3
  go_wp2
  refine bodyPost_ret (results_tc rfl _ _ q 31 _ (0, 0) _ rfl (fset FB3.out _ _) Tryz.underlying31 rfl (by kernel_rfl)) rfl ?_
  have hbq : b ≠ q := by have := HQ.out; omega
  exact ⟨rfl, ⟨R5.out.fset hbq _ _, ftouch T5.out HQ.out.1 _ _⟩⟩
theorem zf_find (s : ByteArray) : ∀ n p, (List.range n).find? (fun i => decide (Bt.byteN s (p + i) = 0)) = (Gz.zf s n p).map (· - p)
  | 0, p => by simp [Gz.zf]
  | n + 1, p => by
    rw [List.range_succ_eq_map, List.find?_cons, Gz.zf]
    by_cases h : Bt.byteN s p = 0
    · simp [h]
    · have ih := zf_find s n (p + 1)
      simp only [Nat.add_zero, h, decide_false, if_false, List.find?_map]
      have e : ((fun i => decide (Bt.byteN s (p + i) = 0)) ∘ Nat.succ) = (fun i => decide (Bt.byteN s (p + 1 + i) = 0)) := by
        funext i
        simp only [Function.comp, Nat.succ_eq_add_one]
        rw [show p + (i + 1) = p + 1 + i by omega]
      rw [e, ih]
      cases hz : Gz.zf s n (p + 1) with
      | none => rfl
      | some z =>
        have := Gz.zf_in s n (p + 1) z hz
        simp
        omega
theorem find_same {α : Type} {p q : α → Bool} : ∀ (l : List α), (∀ i ∈ l, p i = q i) → l.find? p = l.find? q
  | [], _ => rfl
  | x :: l, h => by
    rw [List.find?_cons, List.find?_cons, h x (by simp), find_same l (fun i hi => h i (by simp [hi]))]
theorem first_nul (s : ByteArray) (t : Nat) (ht : t ≤ s.size) : firstIdx (s.extract t s.size) 0 = match Gz.zeroAt s t with
    | none => -1
    | some z => ((z - t : Nat) : Int) := by
  have hsz : (s.extract t s.size).size = s.size - t := by rw [ByteArray.size_extract]; omega
  have e : (List.range (s.extract t s.size).size).find? (fun i => (s.extract t s.size)[i]! == 0) = (List.range (s.size - t)).find? (fun i => decide (Bt.byteN s (t + i) = 0)) := by
    rw [hsz]
    refine find_same _ ?_
    intro i hi
    have hi' : i < s.size - t := by simpa using hi
    have hlt : i < (s.extract t s.size).size := by omega
    rw [← Gz.byteN_extract s t s.size i (Nat.le_refl _) (by omega), ← byte_get _ i hlt, getElem!_pos _ i hlt, Bool.eq_iff_iff]
    simp [← UInt8.toNat_inj]
  unfold firstIdx
  rw [e, zf_find]
  unfold Gz.zeroAt
  cases Gz.zf s (s.size - t) t with
  | none => rfl
  | some z => rfl
theorem index_ext (s : ByteArray) (w : World) : (callFunc 72 #[.string s, .int .u8 0]).run Tryz.prog w = .ok (.value (.int .i64 (firstIdx s 0))) w := by
  rw [run_callFunc_extern Tryz.func72 (by kernel_rfl) (by kernel_rfl) (by kernel_rfl) (e := Extern.BytealgIndexByte.indexByte) (by kernel_rfl), run_indexByte_string]
  rfl
set_option maxRecDepth 100000 in
theorem index_any (s : ByteArray) (w : World) : Calls Tryz.prog 37 #[.string s, .int .u8 0] w fun e w' => e = .returned (.int .i64 (firstIdx s 0)) ∧ w = w' := by
  have K : ∀ w, Calls Tryz.prog 55 #[.string s, .int .u8 0] w fun e w' => e = .returned (.int .i64 (firstIdx s 0)) ∧ w = w' := by
    intro w
    have e := index_ext s
    go_enter Tryz.func55, Tryz.ntmps55
    go_wp2
    go_ret
    exact ⟨rfl, rfl⟩
  have K2 := hid (K w)
  clear K
  go_enter Tryz.func37, Tryz.ntmps37
  go_wp2_with fail
  refine K2.out.mono ?_
  rintro e w1 ⟨rfl, rfl⟩
  clear K2
  go_wp2
  go_ret
  exact ⟨rfl, rfl⟩
end Go.Proofs.YtffjkceedbblgaaGreatDoor
