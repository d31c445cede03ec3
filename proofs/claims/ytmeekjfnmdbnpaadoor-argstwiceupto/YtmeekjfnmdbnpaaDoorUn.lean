/- Unpack: conditions: the text fits into memory, the library's variables lie there. -/
import Derived.Test.YtmeekjfnmdbnpaaDoorTk
namespace Go.Proofs.YtmeekjfnmdbnpaaDoor
open Go.RowKit
open Go.Lib

theorem results_ct {P : Program} {fn : Func} {t p : Tmp} {ty : TypeId} (h : fn.results = #[.cell p ty, .tmp t]) (tmps : Array Value) (w : World) (g : Nat) (et : TypeId) (cs : Array Value) (fr : Nat × Nat) (d : TypeDesc)
    (hp : tmps.getD p undef = .pointer (some ⟨g, 0, none⟩)) (hg : w.heap[g]? = some (.cells cs et fr))
    (hu : P.underlying ty = some d) (hd : (match d with | .struct _ | .array _ _ => true | _ => false) = true) (hi : (P.info? ty).map (·.size) = some cs.size) :
    (results fn tmps).run P w = .ok (.tuple #[.agg cs, tmps.getD t undef]) w := by
  have hp' : tmps[p]?.getD undef = .pointer (some ⟨g, 0, none⟩) := by simpa using hp
  simp [results, h, hp', asAddr, run_loadVar_row w g et ty cs fr d hg hu hd hi]
theorem results_tc {P : Program} {fn : Func} {t p : Tmp} {ty : TypeId} (h : fn.results = #[.tmp t, .cell p ty]) (tmps : Array Value) (w : World) (g : Nat) (et : TypeId) (cs : Array Value) (fr : Nat × Nat) (d : TypeDesc)
    (hp : tmps.getD p undef = .pointer (some ⟨g, 0, none⟩)) (hg : w.heap[g]? = some (.cells cs et fr))
    (hu : P.underlying ty = some d) (hd : (match d with | .struct _ | .array _ _ => true | _ => false) = true) (hi : (P.info? ty).map (·.size) = some cs.size) :
    (results fn tmps).run P w = .ok (.tuple #[tmps.getD t undef, .agg cs]) w := by
  have hp' : tmps[p]?.getD undef = .pointer (some ⟨g, 0, none⟩) := by simpa using hp
  simp [results, h, hp', asAddr, run_loadVar_row w g et ty cs fr d hg hu hd hi]
theorem two_new {w : World} (u v : Value) (t : TypeId) : (w.alloc (.cells #[u, v] t)).heap[w.heap.size]? = some (.cells #[u, v] t (0, 0)) := by
  show (w.heap.push _)[_]? = _
  simp
theorem fset {w' : World} {q : Nat} {u v : Value} {ty : TypeId} (h : w'.heap[q]? = some (.cells #[u, v] ty (0, 0))) (x y : Value) : ((w'.setCell ⟨q, 0, none⟩ x).setCell ⟨q, 1, none⟩ y).heap[q]? = some (.cells #[x, y] ty (0, 0)) := two_set1 (two_set0 h)
theorem ftouch {S : Nat → Prop} {w w' : World} {q : Nat} (T : Touch S w w') (hq : w.heap.size ≤ q) (x y : Value) : Touch S w ((w'.setCell ⟨q, 0, none⟩ x).setCell ⟨q, 1, none⟩ y) :=
  (T.setCell (p := ⟨q, 0, none⟩) (fun h => absurd h (Nat.not_lt.2 hq)) x).setCell (p := ⟨q, 1, none⟩) (fun h => absurd h (Nat.not_lt.2 hq)) y
theorem own_fset {w : World} {base : Nat} {e : TypeId} {sz : Nat} {v : Value} {n : Nat} {xs : List Value} {q : Nat} (h : w.ownsRow base e sz v n xs) (hq : ∀ g, v.ownBlock = some g → g ≠ q) (x y : Value) : ((w.setCell ⟨q, 0, none⟩ x).setCell ⟨q, 1, none⟩ y).ownsRow base e sz v n xs := by
  refine ⟨h.1, ?_⟩
  rcases h.2 with h0 | ⟨g, cap, cur, hv, hg, hh, rest⟩
  · exact .inl h0
  · have hne : g ≠ q := hq g (by rw [hv]; rfl)
    refine .inr ⟨g, cap, cur, hv, hg, ?_, rest⟩
    rw [Below.heap_setCell _ _ _ _ hne, Below.heap_setCell _ _ _ _ hne]
    exact hh
theorem OwS.done {w w0 wr : World} {v : Value} {s : List Bs} {q : Nat} (h : OwS w0 wr v s) (t : Touch (fun _ => False) w w0) (hq : q < w0.heap.size) (hq2 : w.heap.size ≤ q) (x y : Value) : OwS w ((wr.setCell ⟨q, 0, none⟩ x).setCell ⟨q, 1, none⟩ y) v s :=
  ⟨own_fset h.own (fun g hg => by have := h.new g hg; omega) x y, fun g hg => by have := h.new g hg; have := t.size; omega, ftouch (t.trans h.touch (fun _ _ e => e)) hq2 x y⟩
def okL : Except Nat (List Bs) → List Bs
  | .ok l => l
  | .error _ => []
def faE : Except Nat (List Bs) → Int
  | .ok _ => 0
  | .error _ => 4
def faA : Except Nat (List Bs) → Int
  | .ok _ => 0
  | .error p => (p : Nat)
def onto (o : List Bs) : Except Nat (List Bs) → Except Nat (List Bs)
  | .ok l => .ok (o ++ l)
  | .error p => .error p
theorem unF_step (f a : Nat) (s t r : Bs) (h0 : s ≠ []) (h : tk s = some (t, r)) (o : List Bs) : onto o (unF (f + 1) a s) = onto (o ++ [t]) (unF f (a + (pk t).length) r) := by
  rw [unF, if_neg h0, h]
  dsimp only
  cases unF f (a + (pk t).length) r with
  | ok l => show Except.ok (o ++ t :: l) = Except.ok (o ++ [t] ++ l); simp
  | error p => rfl
set_option maxRecDepth 100000 in
set_option maxHeartbeats 4000000 in
theorem unpack_any (s : ByteArray) (w : World) (hs : s.size ≤ 1099511627776) (hx : Sx w) :
    Calls Tryd.prog 10 #[.string s] w fun e w' => ∃ v', e = .returned (.tuple #[v', .agg #[.int .i64 (faE (un s.data.toList)), .int .i64 (faA (un s.data.toList))]]) ∧ OwS w w' v' (okL (un s.data.toList)) := by
  obtain ⟨i0, hi, hz0, hz1, hz2⟩ := info_parts info9
  have T0 := hid ((Touch.refl (fun _ => False) w).alloc (.cells #[.int .i64 0, .int .i64 0] 27))
  have FB0 := hid (two_new (w := w) (.int .i64 0) (.int .i64 0) 27)
  have X0 := hid (hx.new T0.out)
  obtain ⟨X, hX⟩ : ∃ X, X = un s.data.toList := ⟨_, rfl⟩
  rw [← hX]
  have HX := hid (show onto [] (unF (s.size + 1) (s.size - s.size) s.data.toList) = X by
    rw [hX, Nat.sub_self]
    unfold un
    rw [len_size]
    cases unF (s.size + 1) 0 s.data.toList <;> rfl)
  clear hx hX
  go_enter Tryd.func10, Tryd.ntmps10
  go_wp2_with fail
  generalize w.alloc (.cells #[.int .i64 0, .int .i64 0] 27) = w0 at *
  obtain ⟨q, hq⟩ : ∃ q, q = w.heap.size := ⟨_, rfl⟩
  rw [← hq] at FB0 ⊢
  have HQ := hid (show w.heap.size ≤ q ∧ q < w0.heap.size from ⟨by omega, lt_of_block FB0.out⟩)
  clear hq
  go_loopg [4, 5] (s.size + 1) (fun gk v4 v5 wr => ∃ (r : ByteArray) (o : List Bs), r.size < gk ∧ r.size ≤ s.size ∧ o.length + r.size ≤ s.size ∧ v5 = .string r ∧ Hid (onto o (unF gk (s.size - r.size) r.data.toList) = X) ∧ OwS w0 wr v4 o)
  case atStart => exact ⟨s, [], by omega, Nat.le_refl _, by simp, rfl, HX, OwS.nil _⟩
  case round =>
    clear HX
    obtain ⟨r, o, hrg, hrs, hol, rfl, HO, hown⟩ := hrel
    have OW := hid hown
    obtain ⟨a4, c4, hv4⟩ := own_shape hown.own
    subst hv4
    clear hown
    by_cases hr0 : 0 < r.size
    · have hne := list_ne hr0
      have hne2 : ¬ r.toList = [] := fun e => by rw [e] at hne; exact absurd hne (by decide)
      have hne3 : r.data.toList ≠ [] := by rw [← toList_data]; exact hne2
      obtain ⟨G, rfl⟩ : ∃ G, gk = G + 1 := ⟨gk - 1, by omega⟩
      have K := hid (take_any r (by omega) wr (X0.out.new OW.out.touch))
      unfold tkV at K
      cases hk : tk r.data.toList with
      | none =>
        rw [hk] at K
        dsimp only at K
        have HE := hid (show X = .error (s.size - r.size) by rw [← HO.out, unF, if_neg hne3, hk]; rfl)
        clear hk hne3 HO
        go_wp2_with fail
        refine K.out.mono ?_
        rintro e w1 ⟨rfl, t1⟩
        clear K
        have OW1 := hid (OW.out.still t1)
        clear t1 OW
        have FB1 := hid ((OW1.out.touch.block q HQ.out.2 id).trans FB0.out)
        have g0 := cell_two0 FB1.out
        have g1 := cell_two1 FB1.out
        have gf0 := free_two (i := 0) FB1.out
        have gf1 := free_two (i := 1) FB1.out
        have hsub : ((s.size : Int) - (r.size : Int)) = ((s.size - r.size : Nat) : Int) := by omega
        have HS := hid hsub
        clear hsub
        go_wp2
        refine bodyPost_ret (results_tc rfl _ _ q 27 _ (0, 0) _ rfl (fset FB1.out _ _) Tryd.underlying27 rfl (by kernel_rfl)) rfl ?_
        refine ⟨.slice none 0 0, ?_, ?_⟩
        · rw [HE.out]
          show Ending.returned (.tuple #[_, .agg #[_, .int .i64 ((s.size : Int) - (r.size : Int))]]) = _
          rw [HS.out]
          rfl
        · rw [HE.out]
          exact ((OwS.nil w0).still OW1.out.touch).done T0.out HQ.out.2 HQ.out.1 _ _
      | some p =>
        obtain ⟨t, r'⟩ := p
        rw [hk] at K
        dsimp only at K
        rw [unF_step G _ _ t r' hne3 hk o] at HO
        have hl := tk_less hk
        have hle := tk_eq hk
        rw [len_size] at hl hle
        obtain ⟨T, hT, hTs, hTd⟩ := name_ba t
        obtain ⟨R, hR, hRs, hRd⟩ := name_ba r'
        rw [hT, hR] at K
        rw [← hRs] at hl hle
        rw [show s.size - r.size + (pk t).length = s.size - R.size by omega, ← hRd, ← hTd] at HO
        have hRlt : R.size < G := by omega
        have hRle : R.size ≤ s.size := by omega
        have hRo : o.length + 1 + R.size ≤ s.size := by omega
        clear hk hne3 hl hle hR hRs hRd hTs hTd hT
        go_wp2_with fail
        refine K.out.mono ?_
        rintro e w1 ⟨rfl, t1⟩
        clear K
        have OW1 := hid (OW.out.still t1)
        clear t1 OW
        go_wp2_with (at_builtin; refine wpList_append_own_at _ rfl _ _ 24 rfl 0 9 i0 (.string ⟨#[]⟩) 1 16 Tryd.underlying24 hi hz0 hz1 hz2 rfl (by decide) _ _ _ rfl (OW1.out.own.alloc _) ⟨w1.heap.size, 0, none⟩ 1 1 [.string T] rfl rfl (row_new w1 [.string T] 9) (by intro u hu; simp at hu; subst hu; rfl) (by unfold maxLen; omega) (by omega) (Nat.zero_le _) ?_)
        intro v4' w4 hown hgrow _ hat
        have P4 := hid (OW1.out.more (xs := [T.data.toList]) hown hgrow hat)
        clear hown hgrow hat
        go_wp2
        go_roundg G
        case measure => omega
        case rel => exact ⟨R, o ++ [T.data.toList], hRlt, hRle, by simp; omega, rfl, HO, P4.out⟩
    · have h0 : r.data.toList = [] := List.eq_nil_of_length_eq_zero (by rw [len_size]; omega)
      have hne2 : r.toList = [] := by rw [toList_data]; exact h0
      have hne : r.toList.isEmpty = true := by rw [hne2]; rfl
      obtain ⟨G, rfl⟩ : ∃ G, gk = G + 1 := ⟨gk - 1, by omega⟩
      have HX2 := hid (show X = .ok o by rw [← HO.out, h0, unF, if_pos rfl]; show Except.ok (o ++ []) = _; rw [List.append_nil])
      clear h0 HO
      have FB1 := hid ((OW.out.touch.block q HQ.out.2 id).trans FB0.out)
      have g0 := cell_two0 FB1.out
      have g1 := cell_two1 FB1.out
      have gf0 := free_two (i := 0) FB1.out
      have gf1 := free_two (i := 1) FB1.out
      go_wp2
      refine bodyPost_ret (results_tc rfl _ _ q 27 _ (0, 0) _ rfl (fset FB1.out _ _) Tryd.underlying27 rfl (by kernel_rfl)) rfl ?_
      exact ⟨_, by rw [HX2.out]; rfl, by rw [HX2.out]; exact OW.out.done T0.out HQ.out.2 HQ.out.1 _ _⟩
end Go.Proofs.YtmeekjfnmdbnpaaDoor
