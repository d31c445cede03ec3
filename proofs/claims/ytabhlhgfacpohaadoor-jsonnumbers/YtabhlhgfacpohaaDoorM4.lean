/- Texts of this proof, one behind the other: what each says stands ahead of it. -/
import Derived.Test.YtabhlhgfacpohaaDoorM3
import Derived.Recover
/- A parser of JSON: a value that begins as a number does, with no blanks around it; condition: the text has at most 1048576 bytes. -/
namespace Go.Proofs.YtabhlhgfacpohaaDoor
open Go.RowKit

def noBlank (x : Int) : Prop := x ≠ 32 ∧ x ≠ 9 ∧ x ≠ 10 ∧ x ≠ 13
theorem take_no (b : Nat) (s : ByteArray) (t d c : Nat) (w : World) (h : Ps w b s t d) (hs : s.size ≤ 1048576) (ht : t ≤ s.size) (hc : c < 256) (hn : lk s t ≠ (c : Int)) :
    Calls Tryd.prog 76 #[.pointer (some ⟨b, 0, none⟩), .int .u8 (c : Nat)] w fun e w' => e = .returned (.bool false) ∧ Ps w' b s t d ∧ Touch (fun k => k = b) w w' := by
  have k := take_any b s t d c w h hs ht hc
  rw [if_neg hn, decide_eq_false hn] at k
  exact k
set_option maxRecDepth 100000 in
set_option maxHeartbeats 4000000 in
theorem blanks_none (b : Nat) (s : ByteArray) (t d : Nat) (w : World) (h : Ps w b s t d) (hs : s.size ≤ 1048576) (ht : t ≤ s.size) (hn : noBlank (lk s t)) :
    Calls Tryd.prog 62 #[.pointer (some ⟨b, 0, none⟩)] w fun e w' => e = .returned (.tuple #[]) ∧ Ps w' b s t d ∧ Touch (fun k => k = b) w w' := by
  obtain ⟨n1, n2, n3, n4⟩ := hn
  have K := hid (fun (c : Nat) (hc : c < 256) (hx : lk s t ≠ (c : Int)) (w : World) (h : Ps w b s t d) => take_no b s t d c w h hs ht hc hx)
  have HP := hid h
  have TW := hid (Touch.refl (fun k => k = b) w)
  clear h
  go_enter Tryd.func62, Tryd.ntmps62
  go_wp2_with fail
  go_loopg [] 0 (fun _ wq => Hid (Ps wq b s t d) ∧ Hid (Touch (fun k => k = b) w wq))
  case atStart => exact ⟨HP, TW⟩
  case round =>
    obtain ⟨HK, TK⟩ := hrel
    clear HP TW
    go_wp2_with fail
    refine (K.out 32 (by decide) n1 _ HK.out).mono ?_
    rintro e w1 ⟨rfl, hp, tt⟩
    replace HK := hid hp
    replace TK := hid (TK.out.trans tt (fun _ _ e => e))
    clear hp tt
    go_wp2_with fail
    refine (K.out 9 (by decide) n2 _ HK.out).mono ?_
    rintro e w2 ⟨rfl, hp, tt⟩
    replace HK := hid hp
    replace TK := hid (TK.out.trans tt (fun _ _ e => e))
    clear hp tt
    go_wp2_with fail
    refine (K.out 10 (by decide) n3 _ HK.out).mono ?_
    rintro e w3 ⟨rfl, hp, tt⟩
    replace HK := hid hp
    replace TK := hid (TK.out.trans tt (fun _ _ e => e))
    clear hp tt
    go_wp2_with fail
    refine (K.out 13 (by decide) n4 _ HK.out).mono ?_
    rintro e w4 ⟨rfl, hp, tt⟩
    replace HK := hid hp
    replace TK := hid (TK.out.trans tt (fun _ _ e => e))
    clear hp tt
    go_wp2
    go_end0
    exact ⟨rfl, HK.out, TK.out⟩

/-- A value in memory: a struct of four cells. -/
theorem jfour_new {w : World} (a b c d : Value) (t : TypeId) : (w.alloc (.cells #[a, b, c, d] t)).heap[w.heap.size]? = some (.cells #[a, b, c, d] t (0, 0)) := by
  show (w.heap.push _)[_]? = _
  simp
theorem jfour_set {w : World} {q : Nat} {a b c d : Value} {ty : TypeId} (h : w.heap[q]? = some (.cells #[a, b, c, d] ty (0, 0))) (x y z u : Value) : ((((w.setCell ⟨q, 0, none⟩ x).setCell ⟨q, 1, none⟩ y).setCell ⟨q, 2, none⟩ z).setCell ⟨q, 3, none⟩ u).heap[q]? = some (.cells #[x, y, z, u] ty (0, 0)) :=
  block_set (block_set (block_set (block_set h 0 x) 1 y) 2 z) 3 u
theorem jfour_touch {S : Nat → Prop} {w w' : World} {q : Nat} (T : Touch S w w') (hq : w.heap.size ≤ q) (x y z u : Value) : Touch S w ((((w'.setCell ⟨q, 0, none⟩ x).setCell ⟨q, 1, none⟩ y).setCell ⟨q, 2, none⟩ z).setCell ⟨q, 3, none⟩ u) :=
  (((T.setCell (p := ⟨q, 0, none⟩) (fun h => absurd h (Nat.not_lt.2 hq)) x).setCell (p := ⟨q, 1, none⟩) (fun h => absurd h (Nat.not_lt.2 hq)) y).setCell (p := ⟨q, 2, none⟩) (fun h => absurd h (Nat.not_lt.2 hq)) z).setCell (p := ⟨q, 3, none⟩) (fun h => absurd h (Nat.not_lt.2 hq)) u
theorem Ps.four {w : World} {b q : Nat} {s : ByteArray} {t d : Nat} (h : Ps w b s t d) (hne : b ≠ q) (x y z u : Value) : Ps ((((w.setCell ⟨q, 0, none⟩ x).setCell ⟨q, 1, none⟩ y).setCell ⟨q, 2, none⟩ z).setCell ⟨q, 3, none⟩ u) b s t d := by
  unfold Ps
  rw [Below.heap_setCell _ _ _ _ hne, Below.heap_setCell _ _ _ _ hne, Below.heap_setCell _ _ _ _ hne, Below.heap_setCell _ _ _ _ hne]
  exact h
def noSign (x : Int) : Prop := x ≠ 110 ∧ x ≠ 102 ∧ x ≠ 116 ∧ x ≠ 34 ∧ x ≠ 91 ∧ x ≠ 123
def numV (s : ByteArray) (t u : Nat) : Value := .agg #[.int .i64 3, .string (s.extract t u), .slice none 0 0, .slice none 0 0]
/-- What is answered of a number. -/
def ValR (s : ByteArray) (b t d : Nat) (w : World) : Except Nat Nat → Ending → World → Prop
  | .ok u, e, w' => e = .returned (numV s t u) ∧ Ps w' b s u d ∧ Touch (fun k => k = b) w w'
  | .error k, e, w' => e = thrown 20 k ∧ Ps w' b s k d ∧ Touch (fun k => k = b) w w'
set_option maxRecDepth 100000 in
set_option maxHeartbeats 4000000 in
theorem bare_num (b : Nat) (s : ByteArray) (t d : Nat) (w : World) (h : Ps w b s t d) (hs : s.size ≤ 1048576) (ht : t ≤ s.size) (hn : noSign (lk s t)) :
    Calls Tryd.prog 63 #[.pointer (some ⟨b, 0, none⟩)] w fun e w' => ValR s b t d w (numE s t) e w' := by
  obtain ⟨n1, n2, n3, n4, n5, n6⟩ := hn
  have T0 := hid ((Touch.refl (fun _ => False) w).alloc (.cells #[.int .i64 0, .string ⟨#[]⟩, .slice none 0 0, .slice none 0 0] 26))
  have H0 := hid (h.new T0.out)
  have B0 := hid (jfour_new (w := w) (.int .i64 0) (.string ⟨#[]⟩) (.slice none 0 0) (.slice none 0 0) 26)
  have HBW := hid h.lt
  have KL := hid (look_any b s t d _ H0.out hs ht)
  have KN := hid (fun w' (hp : Ps w' b s t d) => number_any b s t d w' hp hs ht)
  clear h
  generalize lk s t = x at *
  have b1 : (x == 110) = false := beq_eq_false_iff_ne.2 n1
  have b2 : (x == 102) = false := beq_eq_false_iff_ne.2 n2
  have b3 : (x == 116) = false := beq_eq_false_iff_ne.2 n3
  have b4 : (x == 34) = false := beq_eq_false_iff_ne.2 n4
  have b5 : (x == 91) = false := beq_eq_false_iff_ne.2 n5
  have b6 : (x == 123) = false := beq_eq_false_iff_ne.2 n6
  go_enter Tryd.func63, Tryd.ntmps63
  go_wp2_with fail
  refine KL.out.mono ?_
  rintro e w1 ⟨rfl, t1⟩
  have H1 := hid (H0.out.new t1)
  have T1 := hid (T0.out.trans t1 (fun _ _ e => e))
  have B1 := hid ((t1.block w.heap.size (lt_of_block B0.out) id).trans B0.out)
  clear t1 KL H0 B0 T0
  obtain ⟨q, hq⟩ : ∃ q, q = w.heap.size := ⟨_, rfl⟩
  rw [← hq] at B1 ⊢
  have HQ := hid (show w.heap.size ≤ q ∧ b < q from ⟨by omega, by have := HBW.out; omega⟩)
  clear hq HBW
  have KN1 := hid (KN.out w1 H1.out)
  clear KN
  cases hX : numE s t with
  | error k =>
    rw [hX] at KN1
    unfold NumR thrown at KN1
    have HX := hid hX
    clear hX
    go_wp2_with fail
    refine KN1.out.mono ?_
    rintro e w2 ⟨rfl, hp, tt⟩
    have HE := hid hp
    have TE := hid (Touch.trans (S := fun k => k = b) (T1.out.mono (fun _ _ e => e.elim)) tt (fun _ _ e => e))
    clear hp tt KN1
    go_wp2
    refine ⟨rfl, ?_⟩
    rw [HX.out]
    exact ⟨rfl, HE.out, TE.out⟩
  | ok u =>
    rw [hX] at KN1
    unfold NumR at KN1
    have HX := hid hX
    clear hX
    go_wp2_with fail
    refine KN1.out.mono ?_
    rintro e w2 ⟨rfl, hp, tt⟩
    have HE := hid hp
    have TE := hid (Touch.trans (S := fun k => k = b) (T1.out.mono (fun _ _ e => e.elim)) tt (fun _ _ e => e))
    have B2 := hid ((tt.block q (lt_of_block B1.out) (fun e => by have := HQ.out; omega)).trans B1.out)
    clear hp tt KN1 B1 T1 H1
    have b2' := B2.out
    have k0 : w2.cell? ⟨q, 0, none⟩ = some (.int .i64 0) := by simp [World.cell?, b2']
    have k1 : w2.cell? ⟨q, 1, none⟩ = some (.string ⟨#[]⟩) := by simp [World.cell?, b2']
    have k2 : w2.cell? ⟨q, 2, none⟩ = some (.slice none 0 0) := by simp [World.cell?, b2']
    have k3 : w2.cell? ⟨q, 3, none⟩ = some (.slice none 0 0) := by simp [World.cell?, b2']
    have f0 : w2.frozen? ⟨q, 0, none⟩ = false := by simp [World.frozen?, b2']
    have f1 : w2.frozen? ⟨q, 1, none⟩ = false := by simp [World.frozen?, b2']
    have f2 : w2.frozen? ⟨q, 2, none⟩ = false := by simp [World.frozen?, b2']
    have f3 : w2.frozen? ⟨q, 3, none⟩ = false := by simp [World.frozen?, b2']
    clear b2'
    go_wp2
    refine bodyPost_ret (results_c rfl _ _ q 26 _ (0, 0) _ rfl (jfour_set B2.out _ _ _ _) Tryd.underlying26 rfl (by kernel_rfl)) rfl ?_
    rw [HX.out]
    exact ⟨rfl, HE.out.four (by have := HQ.out; omega) _ _ _ _, jfour_touch TE.out HQ.out.1 _ _ _ _⟩
end Go.Proofs.YtabhlhgfacpohaaDoor

/- A parser of JSON: value, of a text in which no blank stands and none of the other values' first bytes; condition: the text has at most 1048576 bytes. -/
namespace Go.Proofs.YtabhlhgfacpohaaDoor
open Go.RowKit

theorem part1_le {s : ByteArray} {t u : Nat} (ht : t ≤ s.size) (h : part1 s t = .ok u) : u ≤ s.size := by
  have h1 := stp_le s t 45 ht
  unfold part1 at h
  split at h
  · rename_i e
    have := lk_lt (c := 48) e
    cases h
    omega
  · unfold dgE at h
    split at h
    · cases h
    · have := dgn_at s (stp s t 45) h1.2
      cases h
      exact this
theorem dgE_le {s : ByteArray} {t u : Nat} (ht : t ≤ s.size) (h : dgE s t = .ok u) : u ≤ s.size := by
  unfold dgE at h
  split at h
  · cases h
  · have := dgn_at s t ht
    cases h
    exact this
theorem part2_le {s : ByteArray} {t u : Nat} (ht : t ≤ s.size) (h : part2 s t = .ok u) : u ≤ s.size := by
  unfold part2 at h
  split at h
  · rename_i e
    have := lk_lt (c := 46) e
    exact dgE_le (by omega) h
  · cases h
    exact ht
theorem sgn_le {s : ByteArray} {t : Nat} (ht : t ≤ s.size) : sgn s t ≤ s.size := by
  unfold sgn
  split
  · rename_i e
    have := lk_lt (c := 43) e
    omega
  · exact (stp_le s t 45 ht).2
theorem part3_le {s : ByteArray} {t u : Nat} (ht : t ≤ s.size) (h : part3 s t = .ok u) : u ≤ s.size := by
  unfold part3 at h
  split at h
  · rename_i e
    have := lk_lt (c := 101) e
    exact dgE_le (sgn_le (by omega)) h
  · split at h
    · rename_i e
      have := lk_lt (c := 69) e
      exact dgE_le (sgn_le (by omega)) h
    · cases h
      exact ht
theorem num_le {s : ByteArray} {t u : Nat} (ht : t ≤ s.size) (h : numE s t = .ok u) : u ≤ s.size := by
  unfold numE at h
  split at h
  · cases h
  · rename_i h1
    split at h
    · cases h
    · rename_i h2
      exact part3_le (part2_le (part1_le ht h1) h2) h
set_option maxRecDepth 100000 in
set_option maxHeartbeats 4000000 in
theorem value_num (b : Nat) (s : ByteArray) (t d : Nat) (w : World) (h : Ps w b s t d) (hs : s.size ≤ 1048576) (ht : t ≤ s.size) (hn : ∀ k, noBlank (lk s k) ∧ noSign (lk s k)) :
    Calls Tryd.prog 32 #[.pointer (some ⟨b, 0, none⟩)] w fun e w' => ValR s b t d w (numE s t) e w' := by
  have T0 := hid ((Touch.refl (fun _ => False) w).alloc (.cells #[.int .i64 0, .string ⟨#[]⟩, .slice none 0 0, .slice none 0 0] 26))
  have H0 := hid (h.new T0.out)
  have B0 := hid (jfour_new (w := w) (.int .i64 0) (.string ⟨#[]⟩) (.slice none 0 0) (.slice none 0 0) 26)
  have HBW := hid h.lt
  have KB := hid (fun w' k (hp : Ps w' b s k d) (hk : k ≤ s.size) => blanks_none b s k d w' hp hs hk (hn k).1)
  have KV := hid (fun w' (hp : Ps w' b s t d) => bare_num b s t d w' hp hs ht (hn t).2)
  clear h hn
  go_enter Tryd.func32, Tryd.ntmps32
  go_wp2_with fail
  generalize w.alloc (.cells #[.int .i64 0, .string ⟨#[]⟩, .slice none 0 0, .slice none 0 0] 26) = w0 at *
  obtain ⟨q, hq⟩ : ∃ q, q = w.heap.size := ⟨_, rfl⟩
  rw [← hq] at B0 ⊢
  have HQ := hid (show w.heap.size ≤ q ∧ b < q from ⟨by omega, by have := HBW.out; omega⟩)
  clear hq HBW
  refine (KB.out _ t H0.out ht).mono ?_
  rintro e w1 ⟨rfl, hp, tt⟩
  have H1 := hid hp
  have T1 := hid (Touch.trans (S := fun k => k = b) (T0.out.mono (fun _ _ e => e.elim)) tt (fun _ _ e => e))
  have B1 := hid ((tt.block q (lt_of_block B0.out) (fun e => by have := HQ.out; omega)).trans B0.out)
  clear hp tt H0 T0 B0
  have KV1 := hid (KV.out w1 H1.out)
  clear KV
  cases hX : numE s t with
  | error k =>
    rw [hX] at KV1
    unfold ValR thrown at KV1
    have HX := hid hX
    clear hX
    go_wp2_with fail
    refine KV1.out.mono ?_
    rintro e w2 ⟨rfl, hp, tt⟩
    have HE := hid hp
    have TE := hid (T1.out.trans tt (fun _ _ e => e))
    clear hp tt KV1 KB
    go_wp2
    refine ⟨rfl, ?_⟩
    rw [HX.out]
    exact ⟨rfl, HE.out, TE.out⟩
  | ok u =>
    rw [hX] at KV1
    change Hid (Calls Tryd.prog 63 #[.pointer (some ⟨b, 0, none⟩)] w1 fun e w' => e = .returned (.agg #[.int .i64 3, .string (s.extract t u), .slice none 0 0, .slice none 0 0]) ∧ Ps w' b s u d ∧ Touch (fun k => k = b) w1 w') at KV1
    have hu := num_le ht hX
    obtain ⟨S, hS⟩ : ∃ S, s.extract t u = S := ⟨_, rfl⟩
    rw [hS] at KV1
    have HS := hid hS
    clear hS
    have HX := hid hX
    clear hX
    go_wp2_with fail
    refine KV1.out.mono ?_
    rintro e w2 ⟨rfl, hp, tt⟩
    have H2 := hid hp
    have T2 := hid (T1.out.trans tt (fun _ _ e => e))
    have B2 := hid ((tt.block q (lt_of_block B1.out) (fun e => by have := HQ.out; omega)).trans B1.out)
    clear hp tt KV1 B1 T1 H1
    go_upto_region 3 with fail
    have tA := (Touch.refl (fun _ => False) w2).alloc (.cells #[.int .i64 3, .string S, .slice none 0 0, .slice none 0 0] 26)
    have H3 := hid (H2.out.new tA)
    have T3 := hid (T2.out.trans tA (fun _ _ e => e.elim))
    have B3 := hid ((tA.block q (lt_of_block B2.out) id).trans B2.out)
    have C3 := hid (jfour_new (w := w2) (.int .i64 3) (.string S) (.slice none 0 0) (.slice none 0 0) 26)
    have HQ3 := hid (show b < w2.heap.size ∧ q < w2.heap.size from ⟨H2.out.lt, lt_of_block B2.out⟩)
    clear tA H2 T2 B2
    generalize w2.alloc (.cells #[.int .i64 3, .string S, .slice none 0 0, .slice none 0 0] 26) = w3 at *
    generalize w2.heap.size = q3 at *
    go_wp2_with fail
    refine (KB.out _ u H3.out hu).mono ?_
    rintro e w4 ⟨rfl, hp, tt⟩
    have H4 := hid hp
    have T4 := hid (T3.out.trans tt (fun _ _ e => e))
    have B4 := hid ((tt.block q (lt_of_block B3.out) (fun e => by have := HQ.out; omega)).trans B3.out)
    have C4 := hid ((tt.block q3 (lt_of_block C3.out) (fun e => by have := HQ3.out; omega)).trans C3.out)
    clear hp tt H3 T3 B3 C3 KB
    have b4' := B4.out
    have c4' := C4.out
    have j0 : w4.cell? ⟨q3, 0, none⟩ = some (.int .i64 3) := by simp [World.cell?, c4']
    have j1 : w4.cell? ⟨q3, 1, none⟩ = some (.string S) := by simp [World.cell?, c4']
    have j2 : w4.cell? ⟨q3, 2, none⟩ = some (.slice none 0 0) := by simp [World.cell?, c4']
    have j3 : w4.cell? ⟨q3, 3, none⟩ = some (.slice none 0 0) := by simp [World.cell?, c4']
    have k0 : w4.cell? ⟨q, 0, none⟩ = some (.int .i64 0) := by simp [World.cell?, b4']
    have k1 : w4.cell? ⟨q, 1, none⟩ = some (.string ⟨#[]⟩) := by simp [World.cell?, b4']
    have k2 : w4.cell? ⟨q, 2, none⟩ = some (.slice none 0 0) := by simp [World.cell?, b4']
    have k3 : w4.cell? ⟨q, 3, none⟩ = some (.slice none 0 0) := by simp [World.cell?, b4']
    have f0 : w4.frozen? ⟨q, 0, none⟩ = false := by simp [World.frozen?, b4']
    have f1 : w4.frozen? ⟨q, 1, none⟩ = false := by simp [World.frozen?, b4']
    have f2 : w4.frozen? ⟨q, 2, none⟩ = false := by simp [World.frozen?, b4']
    have f3 : w4.frozen? ⟨q, 3, none⟩ = false := by simp [World.frozen?, b4']
    clear b4' c4'
    go_wp2
    refine bodyPost_ret (results_c rfl _ _ q 26 _ (0, 0) _ rfl (jfour_set B4.out _ _ _ _) Tryd.underlying26 rfl (by kernel_rfl)) rfl ?_
    rw [HX.out]
    refine ⟨?_, H4.out.four (by have := HQ.out; omega) _ _ _ _, jfour_touch T4.out HQ.out.1 _ _ _ _⟩
    unfold numV
    rw [HS.out]
end Go.Proofs.YtabhlhgfacpohaaDoor

/- What catches a parser's throw: the deferred closure of whole, of a frame that returns and of one that panics; no condition. -/
namespace Go.Proofs.YtabhlhgfacpohaaDoor
open Go.RowKit

set_option maxRecDepth 100000 in
set_option maxHeartbeats 4000000 in
theorem catch_idle (p q : Addr) (w : World) :
    CallsD Tryd.prog 31 #[.pointer (some p), .pointer (some q)] .returning w fun e u' w' => e = .returned (.tuple #[]) ∧ u' = .returning ∧ w' = w := by
  refine callsD_of_wpS Tryd.func31 rfl fun c₀ cs hu => ?_
  apply wpS_seq
  apply wpS_region
  simp [wpOpsS, go_sem, recoverD, hu, Tryd.ntmps31, Exit.thenS]
  refine wpS_of_wp ?_
  simp [Array.replicate]
  go_wp2
  cases c₀
  simp_all [bodyPostS, results, Tryd.results31]
theorem jtwo_new {w : World} (a b : Value) (t : TypeId) : (w.alloc (.cells #[a, b] t)).heap[w.heap.size]? = some (.cells #[a, b] t (0, 0)) := by
  show (w.heap.push _)[_]? = _
  simp
theorem jtwo_set {w : World} {q : Nat} {a b : Value} {ty : TypeId} (h : w.heap[q]? = some (.cells #[a, b] ty (0, 0))) (x y : Value) : ((w.setCell ⟨q, 0, none⟩ x).setCell ⟨q, 1, none⟩ y).heap[q]? = some (.cells #[x, y] ty (0, 0)) :=
  block_set (block_set h 0 x) 1 y
set_option maxRecDepth 100000 in
set_option maxHeartbeats 4000000 in
theorem catch_thrown (p q : Nat) (c t : Nat) (older : List PanicEntry) (w : World) (v0 v1 v2 v3 : Value) (x0 x1 : Value) (hp : w.heap[p]? = some (.cells #[v0, v1, v2, v3] 26 (0, 0))) (hq : w.heap[q]? = some (.cells #[x0, x1] 29 (0, 0))) (hpq : p ≠ q) :
    CallsD Tryd.prog 31 #[.pointer (some ⟨p, 0, none⟩), .pointer (some ⟨q, 0, none⟩)] (.panicking ({ v := .iface 29 (.agg #[.int .i64 (c : Nat), .int .i64 (t : Nat)]), recovered := false } :: older)) w fun e u' w' =>
      e = .returned (.tuple #[]) ∧ u' = .panicking ({ v := .iface 29 (.agg #[.int .i64 (c : Nat), .int .i64 (t : Nat)]), recovered := true } :: older) ∧
        w'.heap[p]? = some (.cells #[.int .i64 0, .string ⟨#[]⟩, .slice none 0 0, .slice none 0 0] 26 (0, 0)) ∧ w'.heap[q]? = some (.cells #[.int .i64 (c : Nat), .int .i64 (t : Nat)] 29 (0, 0)) ∧ Touch (fun k => k = p ∨ k = q) w w' := by
  have hta : ∀ (v : Value) (w : World), (Instr.typeAssert (.iface 29 v) 20 29 true).run Tryd.prog w = .ok (.tuple #[v, .bool true]) w := fun _ _ => rfl
  refine callsD_of_wpS Tryd.func31 rfl fun c₀ cs hu => ?_
  apply wpS_seq
  apply wpS_region
  simp [wpOpsS, go_sem, recoverD, hu, Tryd.ntmps31, Exit.thenS]
  refine wpS_of_wp ?_
  simp [Array.replicate]
  have T0 := hid ((Touch.refl (fun _ => False) w).alloc (.cells #[.int .i64 (c : Nat), .int .i64 (t : Nat)] 29))
  have B0 := hid (jtwo_new (w := w) (.int .i64 (c : Nat)) (.int .i64 (t : Nat)) 29)
  have P0 := hid ((T0.out.block p (lt_of_block hp) id).trans hp)
  have Q0 := hid ((T0.out.block q (lt_of_block hq) id).trans hq)
  have HL := hid (show p < w.heap.size ∧ q < w.heap.size from ⟨lt_of_block hp, lt_of_block hq⟩)
  clear hp hq
  go_upto_region 5 with fail
  have n1 : ¬ p = w.heap.size := by have := HL.out; omega
  have n2 : ¬ q = w.heap.size := by have := HL.out; omega
  have HN := hid (show w.heap.size ≤ w.heap.size from Nat.le_refl _)
  generalize w.alloc (.cells #[.int .i64 (c : Nat), .int .i64 (t : Nat)] 29) = w1 at *
  obtain ⟨r, hr⟩ : ∃ r, r = w.heap.size := ⟨_, rfl⟩
  rw [← hr] at n1 n2 B0 ⊢
  clear HL HN hr
  have b0 := B0.out
  have p0 := P0.out
  have q0 := Q0.out
  have k0 : w1.cell? ⟨r, 0, none⟩ = some (.int .i64 (c : Nat)) := by simp [World.cell?, b0]
  have k1 : w1.cell? ⟨r, 1, none⟩ = some (.int .i64 (t : Nat)) := by simp [World.cell?, b0]
  have a0 : w1.cell? ⟨p, 0, none⟩ = some v0 := by simp [World.cell?, p0]
  have a1 : w1.cell? ⟨p, 1, none⟩ = some v1 := by simp [World.cell?, p0]
  have a2 : w1.cell? ⟨p, 2, none⟩ = some v2 := by simp [World.cell?, p0]
  have a3 : w1.cell? ⟨p, 3, none⟩ = some v3 := by simp [World.cell?, p0]
  have e0 : w1.frozen? ⟨p, 0, none⟩ = false := by simp [World.frozen?, p0]
  have e1 : w1.frozen? ⟨p, 1, none⟩ = false := by simp [World.frozen?, p0]
  have e2 : w1.frozen? ⟨p, 2, none⟩ = false := by simp [World.frozen?, p0]
  have e3 : w1.frozen? ⟨p, 3, none⟩ = false := by simp [World.frozen?, p0]
  have g0 : w1.cell? ⟨q, 0, none⟩ = some x0 := by simp [World.cell?, q0]
  have g1 : w1.cell? ⟨q, 1, none⟩ = some x1 := by simp [World.cell?, q0]
  have f0 : w1.frozen? ⟨q, 0, none⟩ = false := by simp [World.frozen?, q0]
  have f1 : w1.frozen? ⟨q, 1, none⟩ = false := by simp [World.frozen?, q0]
  clear b0 p0 q0
  have n3 : ¬ r = p := fun e => n1 e.symm
  have n4 : ¬ r = q := fun e => n2 e.symm
  have n5 : ¬ p = q := hpq
  have n6 : ¬ q = p := fun e => hpq e.symm
  go_region
  have PN := jfour_set P0.out (.int .i64 0) (.string ⟨#[]⟩) (.slice none 0 0) (.slice none 0 0)
  have QN : ((((w1.setCell ⟨p, 0, none⟩ (.int .i64 0)).setCell ⟨p, 1, none⟩ (.string ⟨#[]⟩)).setCell ⟨p, 2, none⟩ (.slice none 0 0)).setCell ⟨p, 3, none⟩ (.slice none 0 0)).heap[q]? = some (.cells #[x0, x1] 29 (0, 0)) := by
    rw [Below.heap_setCell _ _ _ _ n6, Below.heap_setCell _ _ _ _ n6, Below.heap_setCell _ _ _ _ n6, Below.heap_setCell _ _ _ _ n6]
    exact Q0.out
  have T1 : Touch (fun k => k = p ∨ k = q) w w1 := T0.out.mono (fun _ _ e => e.elim)
  have T2 := ((((((T1.setCell (p := ⟨p, 0, none⟩) (fun _ => .inl rfl) (.int .i64 0)).setCell (p := ⟨p, 1, none⟩) (fun _ => .inl rfl) (.string ⟨#[]⟩)).setCell (p := ⟨p, 2, none⟩) (fun _ => .inl rfl) (.slice none 0 0)).setCell (p := ⟨p, 3, none⟩) (fun _ => .inl rfl) (.slice none 0 0)).setCell (p := ⟨q, 0, none⟩) (fun _ => .inr rfl) (.int .i64 (c : Nat))).setCell (p := ⟨q, 1, none⟩) (fun _ => .inr rfl) (.int .i64 (t : Nat))).drewN 1
  obtain ⟨w5, h5⟩ : ∃ w5, w5 = (((w1.setCell ⟨p, 0, none⟩ (.int .i64 0)).setCell ⟨p, 1, none⟩ (.string ⟨#[]⟩)).setCell ⟨p, 2, none⟩ (.slice none 0 0)).setCell ⟨p, 3, none⟩ (.slice none 0 0) := ⟨_, rfl⟩
  rw [← h5] at PN QN T2 ⊢
  have PM : ((w5.setCell ⟨q, 0, none⟩ (.int .i64 (c : Nat))).setCell ⟨q, 1, none⟩ (.int .i64 (t : Nat))).heap[p]? = some (.cells #[.int .i64 0, .string ⟨#[]⟩, .slice none 0 0, .slice none 0 0] 26 (0, 0)) := by
    rw [Below.heap_setCell _ _ _ _ n5, Below.heap_setCell _ _ _ _ n5]
    exact PN
  have QM := jtwo_set QN (.int .i64 (c : Nat)) (.int .i64 (t : Nat))
  clear h5 PN QN T1 T0 P0 Q0 B0 k0 k1 a0 a1 a2 a3 e0 e1 e2 e3 g0 g1 f0 f1 hta
  generalize (w5.setCell ⟨q, 0, none⟩ (.int .i64 (c : Nat))).setCell ⟨q, 1, none⟩ (.int .i64 (t : Nat)) = w6 at *
  refine ⟨rfl, _, rfl, .tuple #[], ?_, rfl, rfl, PM, QM, T2⟩
  simp [results, Tryd.results31, go_sem]
end Go.Proofs.YtabhlhgfacpohaaDoor
