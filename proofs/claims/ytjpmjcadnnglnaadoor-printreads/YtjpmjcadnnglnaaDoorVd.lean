/- A parser of JSON: a list's item; conditions: as told. -/
import Derived.Test.YtjpmjcadnnglnaaDoorQVa
namespace Go.Proofs.YtjpmjcadnnglnaaDoor
open Go.RowKit
open Go.Lib

/-- What a value's reading answers in the midst of a list's or an object's. -/
def ValK (w6 wA : World) (lo b bx q : Nat) (s : ByteArray) (d : Nat) (kd : Int) (v2 v3 : Value) (ks : List ByteArray) (cs : List Cel) (xs : List JV) (B : Nat → Prop) (r : JR (JV × Nat)) (v : Value) (w' : World) : Prop :=
  ∃ k t a2 n2 c2 a3 n3 c3 B2 x u, r = .ok (x, u) ∧ v = .agg #[.int .i64 k, .string t, .slice a2 n2 c2, .slice a3 n3 c3] ∧ LS w' lo b bx q s u d kd v2 v3 ks cs xs B ∧ TV w' B2 ⟨k, t, .slice a2 n2 c2, .slice a3 n3 c3⟩ x ∧ (∀ g, B2 g → w6.heap.size ≤ g ∧ g < w'.heap.size) ∧ Touch (fun k => k = b) w6 w' ∧ Touch (fun k => k = b) wA w'
def ValT (w6 : World) (b : Nat) (r : JR (JV × Nat)) (ps : List PanicEntry) (w' : World) : Prop :=
  ∃ c k, r = .error (c, k) ∧ ps = [{ v := .iface 39 (.agg #[.int .i64 (c : Nat), .int .i64 (k : Nat)]), recovered := false }] ∧ Touch (fun k => k = b) w6 w'
theorem val_calls {w6 wA wB : World} {lo b bx q : Nat} {s : ByteArray} {t d : Nat} {kd : Int} {v2 v3 : Value} {ks : List ByteArray} {cs : List Cel} {xs : List JV} {B : Nat → Prop} {r : JR (JV × Nat)} (h : LS w6 lo b bx q s t d kd v2 v3 ks cs xs B) (ht : Tabs w6) (KV : ∀ w', Ps w' b s t d → Tabs w' → Calls Tryd.prog 24 #[.pointer (some ⟨b, 0, none⟩)] w' fun e w'' => ValP s b d w' r e w'')
    (T1 : Touch (fun _ => False) w6 wA) (T2 : Touch (fun _ => False) wA wB) :
    Calls Tryd.prog 24 #[.pointer (some ⟨b, 0, none⟩)] wB fun e w' => (∃ v, e = .returned v ∧ ValK w6 wA lo b bx q s d kd v2 v3 ks cs xs B r v w') ∨ (∃ ps, e = .panicked ps ∧ ValT w6 b r ps w') := by
  have T12 := T1.trans T2 (fun _ _ e => e)
  refine (KV wB (h.ps.new T12) (ht.new T12)).mono ?_
  intro e w' hv
  match r, hv with
  | .ok (x, u), hv =>
    obtain ⟨k, t, a2, n2, c2, a3, n3, c3, B2, rfl, tv, hB, hp, tt⟩ := hv
    have TA := Touch.trans (S := fun k => k = b) (T2.mono (fun _ _ e => e.elim)) tt (fun _ _ e => e)
    have T6 := Touch.trans (S := fun k => k = b) (T12.mono (fun _ _ e => e.elim)) tt (fun _ _ e => e)
    exact .inl ⟨_, rfl, k, t, a2, n2, c2, a3, n3, c3, B2, x, u, rfl, rfl, h.goes hp T6, tv, fun g e => ⟨Nat.le_trans T12.size (hB g e).1, (hB g e).2⟩, T6, TA⟩
  | .error (c, k), hv =>
    obtain ⟨rfl, tt⟩ := hv
    exact .inr ⟨_, rfl, c, k, rfl, rfl, Touch.trans (S := fun k => k = b) (T12.mono (fun _ _ e => e.elim)) tt (fun _ _ e => e)⟩
/-- What the reading of an item answers. -/
def ItemP (w : World) (lo b bx q : Nat) (s : ByteArray) (d : Nat) (kd : Int) (ks : List ByteArray) (cs : List Cel) (xs : List JV) : JR (ByteArray × JV × Nat) → Ending → World → Prop
  | .ok (k, x, u), e, w' => e = .returned (.tuple #[]) ∧ ∃ v2 v3 c B', LS w' lo b bx q s u d kd v2 v3 (ks ++ kyL kd [(k, x)]) (cs ++ [c]) (xs ++ [x]) B' ∧ Touch (fun k => k = b ∨ k = q ∨ lo ≤ k) w w'
  | .error (c, k), e, w' => e = thrown c k ∧ Touch (fun k => k = b ∨ k = q ∨ lo ≤ k) w w'
theorem itemP_five {w w' : World} {lo b bx q : Nat} {s : ByteArray} {u d : Nat} {v2 v3 : Value} {ks : List ByteArray} {cs : List Cel} {c : Cel} {xs : List JV} {x : JV} {k : ByteArray} {B : Nat → Prop} (h : LS w' lo b bx q s u d 5 v2 v3 ks (cs ++ [c]) (xs ++ [x]) B) (T : Touch (fun k => k = b ∨ k = q ∨ lo ≤ k) w w') :
    ItemP w lo b bx q s d 5 ks cs xs (.ok (k, x, u)) (.returned (.tuple #[])) w' := by
  refine ⟨rfl, v2, v3, c, B, ?_, T⟩
  rw [show kyL 5 [(k, x)] = [] from if_neg (by decide), List.append_nil]
  exact h
theorem itemP_six {w w' : World} {lo b bx q : Nat} {s : ByteArray} {u d : Nat} {v2 v3 : Value} {ks : List ByteArray} {cs : List Cel} {c : Cel} {xs : List JV} {x : JV} {k : ByteArray} {B : Nat → Prop} (h : LS w' lo b bx q s u d 6 v2 v3 (ks ++ [k]) (cs ++ [c]) (xs ++ [x]) B) (T : Touch (fun k => k = b ∨ k = q ∨ lo ≤ k) w w') :
    ItemP w lo b bx q s d 6 ks cs xs (.ok (k, x, u)) (.returned (.tuple #[])) w' := by
  refine ⟨rfl, v2, v3, c, B, ?_, T⟩
  rw [show kyL 6 [(k, x)] = [k] from if_pos rfl]
  exact h
set_option maxRecDepth 100000 in
set_option maxHeartbeats 8000000 in
theorem item_lst (lo b bx q : Nat) (s : ByteArray) (t d : Nat) (a3 : Option Addr) (n3 c3 : Nat) (v2 : Value) (ks : List ByteArray) (cs : List Cel) (xs : List JV) (B : Nat → Prop) (sub : Nat → JR (JV × Nat)) (w6 : World) (h : LS w6 lo b bx q s t d 5 v2 (.slice a3 n3 c3) ks cs xs B) (hlo : lo ≤ w6.heap.size) (ht : Tabs w6) (hn3 : cs.length ≤ 1048576)
    (KV0 : ∀ w', Ps w' b s t d → Tabs w' → Calls Tryd.prog 24 #[.pointer (some ⟨b, 0, none⟩)] w' fun e w'' => ValP s b d w' (sub t) e w'') :
    Calls Tryd.prog 64 (#[] ++ #[.pointer (some ⟨q, 0, none⟩), .pointer (some ⟨bx, 0, none⟩)]) w6 fun e w' => ItemP w6 lo b bx q s d 5 ks cs xs (lstE sub t) e w' := by
  obtain ⟨i6, hi26, hy0, hy1, hy2⟩ := info_parts info26b
  have KV := hid KV0
  have H6 := hid h
  have TB6 := hid ht
  have HLO7 := hid hlo
  have HA2 := hid (own_lt h.keys)
  have HA3 := hid (own_lt h.kids)
  have ob := h.obj
  have bb := h.box
  have c1 : w6.cell? ⟨bx, 0, none⟩ = some (.pointer (some ⟨b, 0, none⟩)) := by simp [World.cell?, bb]
  have c3' : w6.cell? ⟨q, 3, none⟩ = some (.slice a3 n3 c3) := by simp [World.cell?, ob]
  clear ob bb h ht KV0 hlo
  obtain ⟨X, hX⟩ : ∃ X, X = lstE sub t := ⟨_, rfl⟩
  have HX := hid hX.symm
  rw [← hX]
  unfold lstE at HX
  clear hX
  go_enter Tryd.func64, Tryd.ntmps64
  have HN3 := hid (show n3 = cs.length from by
    obtain ⟨_, _, hh⟩ := own_shape H6.out.kids
    cases hh
    rfl)
  have hnm3 : n3 ≤ 1048576 := by have := HN3.out; omega
  have hl3 : (n3 : Int) < (n3 : Int) + 1 := by omega
  have hen32 : ∀ args w, (callFunc 24 args).run Tryd.prog w = .ok (.enter 24 args) w := Go.Proofs.enters_of Tryd.func24 (by kernel_rfl) rfl
  have KV1 := hid (val_calls H6.out TB6.out KV.out (wA := w6) (wB := w6.drew) (Touch.refl _ _) (Touch.refl _ _).drew)
  have KV2 := hid (val_calls H6.out TB6.out KV.out (wA := (w6.alloc (.cells #[.int .i64 0, .string ⟨#[]⟩, .slice none 0 0, .slice none 0 0] 36))) (wB := (w6.alloc (.cells #[.int .i64 0, .string ⟨#[]⟩, .slice none 0 0, .slice none 0 0] 36)).drew) ((Touch.refl _ _).alloc _) (Touch.refl _ _).drew)
  have c3c : ∀ o, (w6.alloc o).cell? ⟨q, 3, none⟩ = some (.slice a3 n3 c3) := fun o => (((Touch.refl (fun _ => False) w6).alloc o).cell (p := ⟨q, 3, none⟩) (lt_of_block H6.out.obj) id).trans c3'
  have c1c : ∀ o, (w6.alloc o).cell? ⟨bx, 0, none⟩ = some (.pointer (some ⟨b, 0, none⟩)) := fun o => (((Touch.refl (fun _ => False) w6).alloc o).cell (p := ⟨bx, 0, none⟩) (lt_of_block H6.out.box) id).trans c1
  generalize sub t = RES at *
  clear KV
  go_region_law (first
    | (refine step_call2 (by rfl) 24 _ _ (by rfl) #[.pointer (some ⟨b, 0, none⟩)] (by rfl) hen32 (ValK w6 w6 lo b bx q s d 5 v2 (.slice a3 n3 c3) ks cs xs B RES) (ValT w6 b RES) KV1.out (by
         rintro ps w' ⟨c, k, hr, rfl, tt⟩
         subst hr
         refine ⟨rfl, ?_⟩
         rw [← HX.out]
         exact ⟨rfl, tt.mono (fun _ _ e => .inl e)⟩) ?_
       intro v w7 hr
       obtain ⟨rk, rt, ra2, rn2, rc2, ra3, rn3, rc3, B2, x, u, hR, rfl, ho7, tv, hB2, t7, t8⟩ := hr
       have c3a : w7.cell? ⟨q, 3, none⟩ = some (.slice a3 n3 c3) := (by have := ho7.obj; simp [World.cell?, this])
       have c3b : ∀ o, (w7.alloc o).cell? ⟨q, 3, none⟩ = some (.slice a3 n3 c3) := fun o => (((Touch.refl (fun _ => False) w7).alloc o).cell (p := ⟨q, 3, none⟩) (lt_of_block ho7.obj) id).trans c3a
       have OW7 := hid (show w7.ownsRow 0 36 4 (.slice a3 n3 c3) n3 (cs.flatMap Cel.cells) from (by have := ho7.kids; unfold CL at this; rw [← HN3.out] at this; exact this))
       have H7 := hid ho7
       have T7 := hid t7
       have TV7 := hid tv
       have HB7 := hid hB2
       have HR := hid hR
       clear ho7 t7 tv hB2 hR t8)
    | (refine step_call2 (by rfl) 24 _ _ (by rfl) #[.pointer (some ⟨b, 0, none⟩)] (by rfl) hen32 (ValK w6 (w6.alloc (.cells #[.int .i64 0, .string ⟨#[]⟩, .slice none 0 0, .slice none 0 0] 36)) lo b bx q s d 5 v2 (.slice a3 n3 c3) ks cs xs B RES) (ValT w6 b RES) KV2.out (by
         rintro ps w' ⟨c, k, hr, rfl, tt⟩
         subst hr
         refine ⟨rfl, ?_⟩
         rw [← HX.out]
         exact ⟨rfl, tt.mono (fun _ _ e => .inl e)⟩) ?_
       intro v w7 hr
       obtain ⟨rk, rt, ra2, rn2, rc2, ra3, rn3, rc3, B2, x, u, hR, rfl, ho7, tv, hB2, t7, t8⟩ := hr
       have RN7 := hid (show ∀ j u, ([.int .i64 0, .string ⟨#[]⟩, .slice none 0 0, .slice none 0 0] : List Value)[j]? = some u → w7.cell? ((⟨w6.heap.size, 0, none⟩ : Addr).add j) = some u from fun j u hj => (cell_kept t8 (p := (⟨w6.heap.size, 0, none⟩ : Addr).add j) (by have := H6.out.ps.lt; rw [add_block]; simp; omega)).trans (row_new w6 [.int .i64 0, .string ⟨#[]⟩, .slice none 0 0, .slice none 0 0] 36 j u hj))
       have c3a : w7.cell? ⟨q, 3, none⟩ = some (.slice a3 n3 c3) := (by have := ho7.obj; simp [World.cell?, this])
       have c3b : ∀ o, (w7.alloc o).cell? ⟨q, 3, none⟩ = some (.slice a3 n3 c3) := fun o => (((Touch.refl (fun _ => False) w7).alloc o).cell (p := ⟨q, 3, none⟩) (lt_of_block ho7.obj) id).trans c3a
       have OW7 := hid (show w7.ownsRow 0 36 4 (.slice a3 n3 c3) n3 (cs.flatMap Cel.cells) from (by have := ho7.kids; unfold CL at this; rw [← HN3.out] at this; exact this))
       have H7 := hid ho7
       have T7 := hid t7
       have TV7 := hid tv
       have HB7 := hid hB2
       have HR := hid hR
       clear ho7 t7 tv hB2 hR t8)
    | (refine step_append_own _ (by rfl) _ _ _ (by rfl) 0 36 i6 _ 4 72 Tryd.underlying34 hi26 hy0 hy1 hy2 rfl (by decide) _ _ _ (by rfl) OW7.out ⟨w6.heap.size, 0, none⟩ 1 1 [.int .i64 0, .string ⟨#[]⟩, .slice none 0 0, .slice none 0 0] (by rfl) (by rfl) RN7.out (by intro u hu; simp at hu; rcases hu with rfl | rfl | rfl <;> rfl) (by unfold maxLen; omega) (by omega) (Nat.zero_le _) w7.heap.size rfl ?_
       intro v' w8 hown hgrow hat
       obtain ⟨g8, c8, hv8⟩ := ownsRow_succ8 hown
       subst hv8
       have d0 : w8.cell? ⟨g8, n3 * 4, none⟩ = some (.int .i64 0) := (hown.cellAt (n3 * 4) (by omega)).trans (by have := cels_at (zs := [.int .i64 0, .string ⟨#[]⟩, .slice none 0 0, .slice none 0 0]) HN3.out 0; rw [Nat.add_zero] at this; rw [this]; rfl)
       have d1 : w8.cell? ⟨g8, n3 * 4 + 1, none⟩ = some (.string ⟨#[]⟩) := (hown.cellAt (n3 * 4 + 1) (by omega)).trans (by rw [cels_at HN3.out 1]; rfl)
       have d2 : w8.cell? ⟨g8, n3 * 4 + 2, none⟩ = some (.slice none 0 0) := (hown.cellAt (n3 * 4 + 2) (by omega)).trans (by rw [cels_at HN3.out 2]; rfl)
       have d3 : w8.cell? ⟨g8, n3 * 4 + 3, none⟩ = some (.slice none 0 0) := (hown.cellAt (n3 * 4 + 3) (by omega)).trans (by rw [cels_at HN3.out 3]; rfl)
       have z0 := hown.frozenAt (n3 * 4)
       have z1 := hown.frozenAt (n3 * 4 + 1)
       have z2 := hown.frozenAt (n3 * 4 + 2)
       have z3 := hown.frozenAt (n3 * 4 + 3)
       have GT := hid (show Touch (fun k => (Value.slice a3 n3 c3).ownBlock = some k) w7 w8 from Touch.grown (Touch.refl _ w7) hgrow (fun k e _ => e))
       have HG8 := hid (show lo ≤ g8 from (by
         rcases hat with e | e
         · exact H7.out.new3 g8 (by rw [← e]; rfl)
         · have e' : g8 = _ := Option.some.inj e
           have := HLO7.out
           have := T7.out.size
           omega))
       have HG9 := hid (show g8 < w7.heap.size → (Value.slice a3 n3 c3).ownBlock = some g8 from (by
         intro hlt
         rcases hat with e | e
         · rw [← e]
           rfl
         · have e' : g8 = _ := Option.some.inj e
           omega))
       have ob8 := hid (show w8.heap[q]? = some (.cells #[.int .i64 5, .string ⟨#[]⟩, v2, .slice a3 n3 c3] 36 (0, 0)) from (GT.out.block q (lt_of_block H7.out.obj) (fun e => by have := H7.out.new3 q e; have := H7.out.low; omega)).trans H7.out.obj)
       have c8a : w8.cell? ⟨q, 3, none⟩ = some (.slice a3 n3 c3) := (by have := ob8.out; simp [World.cell?, this])
       have f8a : w8.frozen? ⟨q, 3, none⟩ = false := (by have := ob8.out; simp [World.frozen?, this])
       have ne1 : ¬ g8 = q := (by have := HG8.out; have := H7.out.low; omega)
       have ne2 : ¬ q = g8 := (by have := HG8.out; have := H7.out.low; omega)
       have OW8 := hid hown
       clear hown hgrow hat c3a c3b OW7)
    | (refine step_append_own _ (by rfl) _ _ _ (by rfl) 0 36 i6 _ 4 72 Tryd.underlying34 hi26 hy0 hy1 hy2 rfl (by decide) _ _ _ (by rfl) (OW7.out.alloc _) ⟨w7.heap.size, 0, none⟩ 1 1 [.int .i64 0, .string ⟨#[]⟩, .slice none 0 0, .slice none 0 0] (by rfl) (by rfl) (row_new w7 [.int .i64 0, .string ⟨#[]⟩, .slice none 0 0, .slice none 0 0] 36) (by intro u hu; simp at hu; rcases hu with rfl | rfl | rfl <;> rfl) (by unfold maxLen; omega) (by omega) (Nat.zero_le _) (w7.heap.size + 1) (by simp) ?_
       intro v' w8 hown hgrow hat
       obtain ⟨g8, c8, hv8⟩ := ownsRow_succ8 hown
       subst hv8
       have d0 : w8.cell? ⟨g8, n3 * 4, none⟩ = some (.int .i64 0) := (hown.cellAt (n3 * 4) (by omega)).trans (by have := cels_at (zs := [.int .i64 0, .string ⟨#[]⟩, .slice none 0 0, .slice none 0 0]) HN3.out 0; rw [Nat.add_zero] at this; rw [this]; rfl)
       have d1 : w8.cell? ⟨g8, n3 * 4 + 1, none⟩ = some (.string ⟨#[]⟩) := (hown.cellAt (n3 * 4 + 1) (by omega)).trans (by rw [cels_at HN3.out 1]; rfl)
       have d2 : w8.cell? ⟨g8, n3 * 4 + 2, none⟩ = some (.slice none 0 0) := (hown.cellAt (n3 * 4 + 2) (by omega)).trans (by rw [cels_at HN3.out 2]; rfl)
       have d3 : w8.cell? ⟨g8, n3 * 4 + 3, none⟩ = some (.slice none 0 0) := (hown.cellAt (n3 * 4 + 3) (by omega)).trans (by rw [cels_at HN3.out 3]; rfl)
       have z0 := hown.frozenAt (n3 * 4)
       have z1 := hown.frozenAt (n3 * 4 + 1)
       have z2 := hown.frozenAt (n3 * 4 + 2)
       have z3 := hown.frozenAt (n3 * 4 + 3)
       have GT := hid (show Touch (fun k => (Value.slice a3 n3 c3).ownBlock = some k) w7 w8 from Touch.grown ((Touch.refl _ w7).alloc _) hgrow (fun k e _ => e))
       have HG8 := hid (show lo ≤ g8 from (by
         rcases hat with e | e
         · exact H7.out.new3 g8 (by rw [← e]; rfl)
         · have e' : g8 = _ := Option.some.inj e
           have := HLO7.out
           have := T7.out.size
           omega))
       have HG9 := hid (show g8 < w7.heap.size → (Value.slice a3 n3 c3).ownBlock = some g8 from (by
         intro hlt
         rcases hat with e | e
         · rw [← e]
           rfl
         · have e' : g8 = _ := Option.some.inj e
           omega))
       have ob8 := hid (show w8.heap[q]? = some (.cells #[.int .i64 5, .string ⟨#[]⟩, v2, .slice a3 n3 c3] 36 (0, 0)) from (GT.out.block q (lt_of_block H7.out.obj) (fun e => by have := H7.out.new3 q e; have := H7.out.low; omega)).trans H7.out.obj)
       have c8a : w8.cell? ⟨q, 3, none⟩ = some (.slice a3 n3 c3) := (by have := ob8.out; simp [World.cell?, this])
       have f8a : w8.frozen? ⟨q, 3, none⟩ = false := (by have := ob8.out; simp [World.frozen?, this])
       have ne1 : ¬ g8 = q := (by have := HG8.out; have := H7.out.low; omega)
       have ne2 : ¬ q = g8 := (by have := HG8.out; have := H7.out.low; omega)
       have OW8 := hid hown
       clear hown hgrow hat c3a c3b OW7))
  all_goals
    clear d0 d1 d2 d3 z0 z1 z2 z3 c8a f8a
    go_wp2
    go_end0
    try rw [set_swap ne2, set_swap ne2, set_swap ne2, set_swap ne2]
    have K9 := LS.fin (c := ⟨rk, rt, .slice ra2 rn2 rc2, .slice ra3 rn3 rc3⟩) H7.out HN3.out HG8.out HG9.out OW8.out GT.out ob8.out TV7.out (fun g e => by
      have h1 := HB7.out g e
      exact ⟨Nat.le_trans HLO7.out h1.1, h1.2, fun e2 => by have := HA2.out g e2; omega, fun e2 => by have := HA3.out g e2; omega⟩)
    rw [HR.out] at HX
    rw [← HX.out]
    exact itemP_five K9.1 (Touch.trans (S := fun k => k = b ∨ k = q ∨ lo ≤ k) (T7.out.mono (fun _ _ e => .inl e)) K9.2 (fun _ _ e => .inr e))
end Go.Proofs.YtjpmjcadnnglnaaDoor
