/- Texts of this proof, one behind the other: what each says stands ahead of it. -/
import Derived.Test.YtjpmjcadnnglnaaDoorQWa
import Derived.Test.YtjpmjcadnnglnaaDoorWd
/- The document's parser of JSON: put; conditions: as told. -/
namespace Go.Proofs.YtjpmjcadnnglnaaDoor
open Go.RowKit
open Go.Lib

theorem info77b : (Tryd.prog.info? 53).map (fun i => (i.zero, i.size, i.bytes)) = some (some (.agg #[.int .i64 0, .string ⟨#[]⟩, .slice none 0 0, .slice none 0 0]), 4, 72) := by kernel_rfl
/-- The document's values. -/
def DL (w : World) (V : Value) (ds : List Cel) : Prop := w.ownsRow 0 53 4 V ds.length (ds.flatMap Cel.cells)
theorem Rr.val {w : World} {b : Nat} {s : ByteArray} {t : Nat} {V : Value} {er ea : Nat} (h : Rr w b s t V er ea) (V' : Value) : Rr (w.setCell ⟨b, 2, none⟩ V') b s t V' er ea := block_set h 2 V'
set_option maxRecDepth 100000 in
set_option maxHeartbeats 8000000 in
theorem rput_any (b : Nat) (s : ByteArray) (t : Nat) (av : Option Addr) (nv cv : Nat) (er ea : Nat) (ds : List Cel) (ck : Int) (ct : ByteArray) (a2 : Option Addr) (n2 c2 : Nat) (a3 : Option Addr) (n3 c3 : Nat) (w : World) (h : Rr w b s t (.slice av nv cv) er ea) (hd : DL w (.slice av nv cv) ds) (hb : (Value.slice av nv cv).ownBlock ≠ some b) (hn : ds.length ≤ 4194304) :
    Calls Tryd.prog 32 #[.pointer (some ⟨b, 0, none⟩), .agg #[.int .i64 ck, .string ct, .slice a2 n2 c2, .slice a3 n3 c3]] w fun e w' => e = .returned (.int .i64 (ds.length : Nat)) ∧ ∃ a' c', Rr w' b s t (.slice a' (ds.length + 1) c') er ea ∧ DL w' (.slice a' (ds.length + 1) c') (ds ++ [⟨ck, ct, .slice a2 n2 c2, .slice a3 n3 c3⟩]) ∧ ((Value.slice a' (ds.length + 1) c').ownBlock = (Value.slice av nv cv).ownBlock ∨ ∃ g, (Value.slice a' (ds.length + 1) c').ownBlock = some g ∧ w.heap.size ≤ g) ∧ Touch (fun k => k = b ∨ (Value.slice av nv cv).ownBlock = some k) w w' := by
  obtain ⟨i7, hi77, hy0, hy1, hy2⟩ := info_parts info77b
  have HN := hid (show nv = ds.length from by
    obtain ⟨_, _, hh⟩ := own_shape hd
    cases hh
    rfl)
  have hnv : nv ≤ 4194304 := by have := HN.out; omega
  have TA := (Touch.refl (fun _ => False) w).alloc (.cells #[.int .i64 ck, .string ct, .slice a2 n2 c2, .slice a3 n3 c3] 53)
  have H0 := hid (h.new TA)
  have BX := hid (jfour_new (w := w) (.int .i64 ck) (.string ct) (.slice a2 n2 c2) (.slice a3 n3 c3) 53)
  have O0 := hid (rowKept hd TA (fun _ _ e => e))
  have T0 := hid TA
  have HB := hid hb
  have HBL := hid h.lt
  clear h hd hb TA
  go_enter Tryd.func32, Tryd.ntmps32
  go_upto_region 1 with fail
  generalize w.alloc (.cells #[.int .i64 ck, .string ct, .slice a2 n2 c2, .slice a3 n3 c3] 53) = w1 at *
  generalize hq : w.heap.size = q at *
  have HQ := hid hq
  clear hq
  obtain ⟨⟨k0, k1, k2, k3⟩, _⟩ := cells4 BX.out
  have cv2 := H0.out.c2
  have fv2 := H0.out.fr (i := 2)
  have kk : ∀ o, (w1.alloc o).cell? ⟨b, 2, none⟩ = some (.slice av nv cv) := fun o => (((Touch.refl (fun _ => False) w1).alloc o).cell (p := ⟨b, 2, none⟩) H0.out.lt id).trans cv2
  have OW := hid (show w1.drew.ownsRow 0 53 4 (.slice av nv cv) nv (ds.flatMap Cel.cells) from by have := rowKept O0.out ((Touch.refl (fun _ => False) w1).drew) (fun _ _ e => e); rw [← HN.out] at this; exact this)
  go_region_law (first
    | (refine step_append_own _ (by rfl) _ _ _ (by rfl) 0 53 i7 _ 4 72 Tryd.underlying47 hi77 hy0 hy1 hy2 rfl (by decide) _ _ _ (by rfl) (OW.out.alloc _) ⟨w1.heap.size, 0, none⟩ 1 1 [.int .i64 ck, .string ct, .slice a2 n2 c2, .slice a3 n3 c3] (by rfl) (by rfl) (row_new w1.drew [.int .i64 ck, .string ct, .slice a2 n2 c2, .slice a3 n3 c3] 53) (by intro u hu; simp at hu; rcases hu with rfl | rfl | rfl | rfl <;> rfl) (by unfold maxLen; omega) (by omega) (Nat.zero_le _) (w1.heap.size + 1) (by simp) ?_
       intro v' w3 hown hgrow hat
       obtain ⟨a4, c4, hv4⟩ := own_shape hown
       subst hv4
       have G3 := hid (show Touch (fun k => (Value.slice av nv cv).ownBlock = some k) w1 w3 from Touch.grown (((Touch.refl _ w1).drew).alloc _) hgrow (fun k e _ => e))
       have H3 := hid (show Rr w3 b s t (.slice av nv cv) er ea from (G3.out.block b H0.out.lt (fun e => HB.out e)).trans H0.out)
       have cc3 := H3.out.c2
       have ff3 := H3.out.fr (i := 2)
       have OW3 := hid hown
       have HAT := hid hat
       clear hown hgrow hat))
  all_goals
    have TS := Touch.setCell (S := fun k => k = b) (Touch.refl _ w3) (p := ⟨b, 2, none⟩) (fun _ => rfl) (.slice a4 (nv + 1) c4)
    have H4 := hid (H3.out.val (.slice a4 (nv + 1) c4))
    have T4 := hid (Touch.trans (S := fun k => k = b ∨ (Value.slice av nv cv).ownBlock = some k) (Touch.trans (S := fun k => k = b ∨ (Value.slice av nv cv).ownBlock = some k) (T0.out.mono (fun _ _ e => e.elim)) G3.out (fun _ _ e => .inr e)) TS (fun _ _ e => .inl e))
    have NB := hid (show (Value.slice a4 (nv + 1) c4).ownBlock ≠ some b from fun e => by
      rcases HAT.out with e2 | e2
      · exact HB.out (by rw [← e2]; exact e)
      · rw [e2] at e
        cases e
        have := H0.out.lt
        omega)
    have O4 := hid (rowKept OW3.out TS (fun g e e2 => NB.out (by rw [e, e2])))
    have HS1 := hid T0.out.size
    clear TS
    generalize w3.setCell ⟨b, 2, none⟩ (.slice a4 (nv + 1) c4) = w4 at *
    have e2 := H4.out.c2
    go_wp2
    go_ret
    have hl : (ds ++ [(⟨ck, ct, .slice a2 n2 c2, .slice a3 n3 c3⟩ : Cel)]).length = ds.length + 1 := by simp
    refine ⟨by rw [HN.out]; go_num, a4, c4, ?_, ?_, ?_, ?_⟩
    · rw [← HN.out]
      exact H4.out
    · unfold DL
      rw [hl, List.flatMap_append, ← HN.out]
      exact O4.out
    · rw [← HN.out]
      rcases HAT.out with e | e
      · exact .inl e
      · exact .inr ⟨_, e, by have := HQ.out; have := HS1.out; show _ ≤ w1.heap.size + 1; omega⟩
    · exact T4.out
end Go.Proofs.YtjpmjcadnnglnaaDoor

/- The document's parser of JSON: text, where something is wrong already; the document's values as trees; conditions: as told. -/
namespace Go.Proofs.YtjpmjcadnnglnaaDoor
open Go.RowKit
open Go.Lib

set_option maxRecDepth 100000 in
set_option maxHeartbeats 8000000 in
theorem rtext_err (b : Nat) (s : ByteArray) (t : Nat) (V : Value) (er ea : Nat) (w : World) (h : Rr w b s t V er ea) (he : er ≠ 0) :
    Calls Tryd.prog 33 #[.pointer (some ⟨b, 0, none⟩)] w fun e w' => e = .returned (.string ⟨#[]⟩) ∧ Touch (fun _ => False) w w' := by
  have KW := hid (want_err b s ⟨#[34]⟩ t V er ea w h he (by decide))
  have KH := hid (fun w' (hp : Rr w' b s t V er ea) => here_err b s t V er ea w' hp he)
  have KF := hid (fun w' (hp : Rr w' b s t V er ea) => fail_err b s t V er ea 20 w' hp he)
  have HP := hid h
  clear h
  go_enter Tryd.func33, Tryd.ntmps33
  go_wp2_with fail
  refine KW.out.mono ?_
  rintro e w1 ⟨rfl, tt⟩
  have H1 := hid (HP.out.new tt)
  have T1 := hid tt
  clear tt KW HP
  go_wp2_with fail
  go_loopg [3] 0 (fun gk v3 wq => v3 = .slice none 0 0 ∧ wq = w1)
  case atStart => exact ⟨rfl, rfl⟩
  case round =>
    obtain ⟨rfl, rfl⟩ := hrel
    have K1 := hid (KH.out _ H1.out)
    go_wp2_with fail
    refine K1.out.mono ?_
    rintro e w2 ⟨rfl, tt⟩
    have H2 := hid (H1.out.new tt)
    have T2 := hid (T1.out.trans tt (fun _ _ e => e))
    clear tt K1
    have K2 := hid (KF.out _ H2.out)
    go_wp2_with fail
    refine K2.out.mono ?_
    rintro e w3 ⟨rfl, tt⟩
    have T3 := hid (T2.out.trans tt (fun _ _ e => e))
    clear tt K2
    go_wp2
    go_ret
    exact ⟨rfl, T3.out⟩
/-- Places of the document's values in a list of the call's own. -/
def IL (w : World) (v : Value) (ks : List Nat) : Prop := w.ownsRow 0 3 1 v ks.length (ks.map fun k => .int .i64 (k : Nat))
/-- A tree among the document's values, by its place. -/
inductive DT (w : World) (B : Nat → Prop) (ds : List Cel) : Nat → JV → Prop
  | mk (p : Nat) (k : Int) (t : ByteArray) (v2 v3 : Value) (ks : List ByteArray) (ps : List Nat) (kids : List JV) (hp : ds[p]? = some ⟨k, t, v2, v3⟩) (h2 : SL w v2 ks) (b2 : ∀ g, v2.ownBlock = some g → B g) (h3 : IL w v3 ps) (b3 : ∀ g, v3.ownBlock = some g → B g)
    (hl : ps.length = kids.length) (hk : ∀ (i : Nat) (q : Nat) (x : JV), ps[i]? = some q → kids[i]? = some x → DT w B ds q x) : DT w B ds p (.node k t ks kids)
theorem DT.kept {w w' : World} {B S : Nat → Prop} {ds : List Cel} {p : Nat} {x : JV} (h : DT w B ds p x) (tc : Touch S w w') (hS : ∀ g, B g → ¬ S g) : DT w' B ds p x := by
  induction h with
  | mk p k t v2 v3 ks ps kids hp h2 b2 h3 b3 hl hk ih => exact .mk p k t v2 v3 ks ps kids hp (rowKept h2 tc (fun g e => hS g (b2 g e))) b2 (rowKept h3 tc (fun g e => hS g (b3 g e))) b3 hl ih
theorem DT.more {w : World} {B B' : Nat → Prop} {ds : List Cel} {p : Nat} {x : JV} (h : DT w B ds p x) (hS : ∀ g, B g → B' g) (es : List Cel) : DT w B' (ds ++ es) p x := by
  induction h with
  | mk p k t v2 v3 ks ps kids hp h2 b2 h3 b3 hl hk ih =>
    refine .mk p k t v2 v3 ks ps kids ?_ h2 (fun g e => hS g (b2 g e)) h3 (fun g e => hS g (b3 g e)) hl ih
    rw [List.getElem?_append_left (List.getElem?_eq_some_iff.1 hp).1]
    exact hp
end Go.Proofs.YtjpmjcadnnglnaaDoor

/- The document's parser of JSON: value: words; where something is wrong already; conditions: as told. -/
namespace Go.Proofs.YtjpmjcadnnglnaaDoor
open Go.RowKit
open Go.Lib

/-- The reader and its values. -/
structure RS (w : World) (lo b : Nat) (s : ByteArray) (t : Nat) (V : Value) (er ea : Nat) (ds : List Cel) : Prop where
  rr : Rr w b s t V er ea
  dl : DL w V ds
  nv : ∀ g, V.ownBlock = some g → lo ≤ g
  low : b < lo ∧ lo ≤ w.heap.size
theorem RS.goes {w w' : World} {lo b : Nat} {s : ByteArray} {t t' : Nat} {V : Value} {er ea er' ea' : Nat} {ds : List Cel} (h : RS w lo b s t V er ea ds) (hr : Rr w' b s t' V er' ea') (k : Touch (fun k => k = b) w w') : RS w' lo b s t' V er' ea' ds :=
  ⟨hr, rowKept h.dl k (fun g e e2 => by have := h.nv g e; have := h.low; omega), h.nv, h.low.1, Nat.le_trans h.low.2 k.size⟩
theorem RS.new {w w' : World} {lo b : Nat} {s : ByteArray} {t : Nat} {V : Value} {er ea : Nat} {ds : List Cel} (h : RS w lo b s t V er ea ds) (k : Touch (fun _ => False) w w') : RS w' lo b s t V er ea ds := h.goes (h.rr.new k) (k.mono (fun _ _ e => e.elim))
theorem RS.apart {w : World} {lo b : Nat} {s : ByteArray} {t : Nat} {V : Value} {er ea : Nat} {ds : List Cel} (h : RS w lo b s t V er ea ds) : V.ownBlock ≠ some b := fun e => by have := h.nv b e; have := h.low; omega
/-- What value leaves. -/
def RVP (w : World) (lo b : Nat) (s : ByteArray) (t : Nat) (V : Value) (ds : List Cel) : JR (JV × Nat) → Ending → World → Prop
  | .ok (x, u), e, w' => ∃ p a' n' c' es B, e = .returned (.int .i64 (p : Nat)) ∧ RS w' lo b s u (.slice a' n' c') 0 0 (ds ++ es) ∧ ((Value.slice a' n' c').ownBlock = V.ownBlock ∨ ∃ g, (Value.slice a' n' c').ownBlock = some g ∧ w.heap.size ≤ g) ∧ DT w' B (ds ++ es) p x ∧ (∀ g, B g → w.heap.size ≤ g ∧ g < w'.heap.size ∧ (Value.slice a' n' c').ownBlock ≠ some g) ∧ Touch (fun k => k = b ∨ V.ownBlock = some k) w w' ∧ es.length + t ≤ u
  | .error (c, k), e, w' => ∃ r u a' n' c' ds', e = .returned (.int .i64 r) ∧ u ≤ s.size + 1 ∧ RS w' lo b s u (.slice a' n' c') c k ds' ∧ ((Value.slice a' n' c').ownBlock = V.ownBlock ∨ ∃ g, (Value.slice a' n' c').ownBlock = some g ∧ w.heap.size ≤ g) ∧ Touch (fun k => k = b ∨ V.ownBlock = some k) w w' ∧ ds'.length ≤ s.size + 1
/-- One more value. -/
theorem RS.put {w : World} {lo b : Nat} {s : ByteArray} {t : Nat} {av : Option Addr} {nv cv : Nat} {er ea : Nat} {ds : List Cel} (h : RS w lo b s t (.slice av nv cv) er ea ds) (hn : ds.length ≤ 4194304) (ck : Int) (ct : ByteArray) (a2 : Option Addr) (n2 c2 : Nat) (a3 : Option Addr) (n3 c3 : Nat) :
    Calls Tryd.prog 32 #[.pointer (some ⟨b, 0, none⟩), .agg #[.int .i64 ck, .string ct, .slice a2 n2 c2, .slice a3 n3 c3]] w fun e w' => e = .returned (.int .i64 (ds.length : Nat)) ∧ ∃ a' n' c', RS w' lo b s t (.slice a' n' c') er ea (ds ++ [⟨ck, ct, .slice a2 n2 c2, .slice a3 n3 c3⟩]) ∧ ((Value.slice a' n' c').ownBlock = (Value.slice av nv cv).ownBlock ∨ ∃ g, (Value.slice a' n' c').ownBlock = some g ∧ w.heap.size ≤ g) ∧ Touch (fun k => k = b ∨ (Value.slice av nv cv).ownBlock = some k) w w' := by
  refine (rput_any b s t av nv cv er ea ds ck ct a2 n2 c2 a3 n3 c3 w h.rr h.dl h.apart hn).mono ?_
  rintro e w' ⟨h1, a', c', h2, h3, h4, h5⟩
  refine ⟨h1, a', _, c', ⟨h2, h3, fun g e => ?_, h.low.1, Nat.le_trans h.low.2 h5.size⟩, h4, h5⟩
  rcases h4 with e2 | ⟨g2, e2, e3⟩
  · exact h.nv g (by rw [← e2]; exact e)
  · rw [e2] at e
    cases e
    exact Nat.le_trans h.low.2 e3
theorem need_at (s : ByteArray) : ∀ (p : Bs) (t k : Nat), needE s p t = .error k → t ≤ s.size → k ≤ s.size
  | [], t, k, h, _ => by
    rw [needE] at h
    cases h
  | c :: p, t, k, h, ht => by
    rw [needE] at h
    split at h
    · rename_i hc
      have := lk_lt' hc
      exact need_at s p (t + 1) k h (by omega)
    · cases h
      exact ht
theorem DT.leaf (w : World) (B : Nat → Prop) (ds : List Cel) (k : Int) (t : ByteArray) : DT w B (ds ++ [⟨k, t, .slice none 0 0, .slice none 0 0⟩]) ds.length (.node k t [] []) :=
  .mk _ k t _ _ [] [] [] (by rw [List.getElem?_append_right (Nat.le_refl _), Nat.sub_self]; rfl) (World.ownsRow_nil _ _ _ _) (fun g e => by cases e) (World.ownsRow_nil _ _ _ _) (fun g e => by cases e) rfl (fun i q x e => by cases e)
set_option maxRecDepth 100000 in
set_option maxHeartbeats 8000000 in
theorem rvalue_err (b : Nat) (s : ByteArray) (t : Nat) (V : Value) (er ea : Nat) (deep : Nat) (w : World) (h : Rr w b s t V er ea) (he : er ≠ 0) :
    Calls Tryd.prog 18 #[.pointer (some ⟨b, 0, none⟩), .int .i64 (deep : Nat)] w fun e w' => e = .returned (.int .i64 0) ∧ Touch (fun _ => False) w w' := by
  have KB := hid (rblanks_err b s t V er ea w h he)
  have KH := hid (fun w' (hp : Rr w' b s t V er ea) => here_err b s t V er ea w' hp he)
  have KF := hid (fun w' (hp : Rr w' b s t V er ea) => fail_err b s t V er ea 20 w' hp he)
  have HP := hid h
  clear h
  go_enter Tryd.func18, Tryd.ntmps18
  go_wp2_with fail
  refine KB.out.mono ?_
  rintro e w1 ⟨rfl, tt⟩
  have H1 := hid (HP.out.new tt)
  have T1 := hid tt
  clear tt KB HP
  have K1 := hid (KH.out _ H1.out)
  go_wp2_with fail
  refine K1.out.mono ?_
  rintro e w2 ⟨rfl, tt⟩
  have H2 := hid (H1.out.new tt)
  have T2 := hid (T1.out.trans tt (fun _ _ e => e))
  clear tt K1
  have K2 := hid (KF.out _ H2.out)
  go_wp2_with fail
  refine K2.out.mono ?_
  rintro e w3 ⟨rfl, tt⟩
  have T3 := hid (T2.out.trans tt (fun _ _ e => e))
  clear tt K2
  go_wp2
  go_ret
  exact ⟨rfl, T3.out⟩
set_option maxRecDepth 100000 in
set_option maxHeartbeats 8000000 in
theorem rvalue_null (lo b : Nat) (s : ByteArray) (t : Nat) (av : Option Addr) (nv cv : Nat) (ds : List Cel) (deep : Nat) (w : World) (h : RS w lo b s t (.slice av nv cv) 0 0 ds) (hs : s.size ≤ 1048576) (ht : t ≤ s.size) (hd : ds.length ≤ t) (hc : lk s (bl s t) = 110) :
    Calls Tryd.prog 18 #[.pointer (some ⟨b, 0, none⟩), .int .i64 (deep : Nat)] w fun e w' => RVP w lo b s t (.slice av nv cv) ds (wordE s [110, 117, 108, 108] 0 (bl s t)) e w' := by
  have hbl := bl_le s t ht
  have hbg := bl_ge s t
  have KB := hid (rblanks_good b s t (.slice av nv cv) w h.rr hs ht)
  have KH := hid (fun w' (hp : Rr w' b s (bl s t) (.slice av nv cv) 0 0) => here_good b s (bl s t) (.slice av nv cv) w' hp (by omega) hs)
  rw [hc] at KH
  have KW := hid (fun w' (hp : Rr w' b s (bl s t) (.slice av nv cv) 0 0) => want_good b s ⟨#[110, 117, 108, 108]⟩ (bl s t) (.slice av nv cv) w' hp hs hbl (by decide))
  rw [show needE s (⟨#[110, 117, 108, 108]⟩ : ByteArray).data.toList (bl s t) = needE s [110, 117, 108, 108] (bl s t) from rfl] at KW
  obtain ⟨X, hX⟩ : ∃ X, X = wordE s [110, 117, 108, 108] 0 (bl s t) := ⟨_, rfl⟩
  have HX := hid hX.symm
  rw [← hX]
  unfold wordE at HX
  have HF := hid (fun u => need_ok s [110, 117, 108, 108] (bl s t) u hbl)
  have HER := hid (fun k h => need_at s [110, 117, 108, 108] (bl s t) k h hbl)
  have HS := hid h
  clear h hX hc
  generalize bl s t = t0 at *
  go_enter Tryd.func18, Tryd.ntmps18
  go_wp2_with fail
  refine KB.out.mono ?_
  rintro e w1 ⟨rfl, hr, tt⟩
  have S1 := hid (HS.out.goes hr tt)
  have T1 := hid tt
  clear hr tt KB
  have K1 := hid (KH.out _ S1.out.rr)
  go_wp2_with fail
  refine K1.out.mono ?_
  rintro e w2 ⟨rfl, tt⟩
  have S2 := hid (S1.out.new tt)
  have T2 := hid (T1.out.trans tt (fun _ _ e => e.elim))
  clear tt K1 S1 T1
  have K2 := hid (KW.out _ S2.out.rr)
  generalize needE s [110, 117, 108, 108] t0 = R at *
  go_wp2_with fail
  match R with
  | .ok u =>
    have hu := HF.out u rfl
    unfold WantR at K2
    refine K2.out.mono ?_
    rintro e w3 ⟨rfl, hr, tt⟩
    have S3 := hid (S2.out.goes hr tt)
    have T3 := hid (T2.out.trans tt (fun _ _ e => e))
    clear hr tt K2 S2 T2
    have K3 := hid (S3.out.put (by omega) 0 ⟨#[]⟩ none 0 0 none 0 0)
    go_wp2_with fail
    refine K3.out.mono ?_
    rintro e w4 ⟨rfl, a', n', c', hs4, ho, tt⟩
    have S4 := hid hs4
    have T4 := hid (Touch.trans (S := fun k => k = b ∨ (Value.slice av nv cv).ownBlock = some k) (T3.out.mono (fun _ _ e => .inl e)) tt (fun _ _ e => e))
    have HO := hid (show _ ∨ _ from ho.imp id (fun ⟨g, e1, e2⟩ => (⟨g, e1, Nat.le_trans T3.out.size e2⟩ : ∃ g, (Value.slice a' n' c').ownBlock = some g ∧ w.heap.size ≤ g)))
    clear hs4 ho tt K3
    go_wp2
    go_ret
    rw [← HX.out]
    exact ⟨ds.length, a', n', c', _, fun _ => False, rfl, S4.out, HO.out, DT.leaf _ _ _ _ _, fun g e => e.elim, T4.out, by have := hu.1; simp at this; simp; omega⟩
  | .error k =>
    have hk := HER.out k rfl
    unfold WantR at K2
    refine K2.out.mono ?_
    rintro e w3 ⟨rfl, hr, tt⟩
    have S3 := hid (S2.out.goes hr tt)
    have T3 := hid (T2.out.trans tt (fun _ _ e => e))
    clear hr tt K2 S2 T2
    have K3 := hid (S3.out.put (by omega) 0 ⟨#[]⟩ none 0 0 none 0 0)
    go_wp2_with fail
    refine K3.out.mono ?_
    rintro e w4 ⟨rfl, a', n', c', hs4, ho, tt⟩
    have S4 := hid hs4
    have T4 := hid (Touch.trans (S := fun k => k = b ∨ (Value.slice av nv cv).ownBlock = some k) (T3.out.mono (fun _ _ e => .inl e)) tt (fun _ _ e => e))
    have HO := hid (show _ ∨ _ from ho.imp id (fun ⟨g, e1, e2⟩ => (⟨g, e1, Nat.le_trans T3.out.size e2⟩ : ∃ g, (Value.slice a' n' c').ownBlock = some g ∧ w.heap.size ≤ g)))
    clear hs4 ho tt K3
    go_wp2
    go_ret
    rw [← HX.out]
    exact ⟨_, k, a', n', c', _, rfl, by omega, S4.out, HO.out, T4.out, by simp; omega⟩
set_option maxRecDepth 100000 in
set_option maxHeartbeats 8000000 in
theorem rvalue_false (lo b : Nat) (s : ByteArray) (t : Nat) (av : Option Addr) (nv cv : Nat) (ds : List Cel) (deep : Nat) (w : World) (h : RS w lo b s t (.slice av nv cv) 0 0 ds) (hs : s.size ≤ 1048576) (ht : t ≤ s.size) (hd : ds.length ≤ t) (hc : lk s (bl s t) = 102) :
    Calls Tryd.prog 18 #[.pointer (some ⟨b, 0, none⟩), .int .i64 (deep : Nat)] w fun e w' => RVP w lo b s t (.slice av nv cv) ds (wordE s [102, 97, 108, 115, 101] 1 (bl s t)) e w' := by
  have hbl := bl_le s t ht
  have hbg := bl_ge s t
  have KB := hid (rblanks_good b s t (.slice av nv cv) w h.rr hs ht)
  have KH := hid (fun w' (hp : Rr w' b s (bl s t) (.slice av nv cv) 0 0) => here_good b s (bl s t) (.slice av nv cv) w' hp (by omega) hs)
  rw [hc] at KH
  have KW := hid (fun w' (hp : Rr w' b s (bl s t) (.slice av nv cv) 0 0) => want_good b s ⟨#[102, 97, 108, 115, 101]⟩ (bl s t) (.slice av nv cv) w' hp hs hbl (by decide))
  rw [show needE s (⟨#[102, 97, 108, 115, 101]⟩ : ByteArray).data.toList (bl s t) = needE s [102, 97, 108, 115, 101] (bl s t) from rfl] at KW
  obtain ⟨X, hX⟩ : ∃ X, X = wordE s [102, 97, 108, 115, 101] 1 (bl s t) := ⟨_, rfl⟩
  have HX := hid hX.symm
  rw [← hX]
  unfold wordE at HX
  have HF := hid (fun u => need_ok s [102, 97, 108, 115, 101] (bl s t) u hbl)
  have HER := hid (fun k h => need_at s [102, 97, 108, 115, 101] (bl s t) k h hbl)
  have HS := hid h
  clear h hX hc
  generalize bl s t = t0 at *
  go_enter Tryd.func18, Tryd.ntmps18
  go_wp2_with fail
  refine KB.out.mono ?_
  rintro e w1 ⟨rfl, hr, tt⟩
  have S1 := hid (HS.out.goes hr tt)
  have T1 := hid tt
  clear hr tt KB
  have K1 := hid (KH.out _ S1.out.rr)
  go_wp2_with fail
  refine K1.out.mono ?_
  rintro e w2 ⟨rfl, tt⟩
  have S2 := hid (S1.out.new tt)
  have T2 := hid (T1.out.trans tt (fun _ _ e => e.elim))
  clear tt K1 S1 T1
  have K2 := hid (KW.out _ S2.out.rr)
  generalize needE s [102, 97, 108, 115, 101] t0 = R at *
  go_wp2_with fail
  match R with
  | .ok u =>
    have hu := HF.out u rfl
    unfold WantR at K2
    refine K2.out.mono ?_
    rintro e w3 ⟨rfl, hr, tt⟩
    have S3 := hid (S2.out.goes hr tt)
    have T3 := hid (T2.out.trans tt (fun _ _ e => e))
    clear hr tt K2 S2 T2
    have K3 := hid (S3.out.put (by omega) 1 ⟨#[]⟩ none 0 0 none 0 0)
    go_wp2_with fail
    refine K3.out.mono ?_
    rintro e w4 ⟨rfl, a', n', c', hs4, ho, tt⟩
    have S4 := hid hs4
    have T4 := hid (Touch.trans (S := fun k => k = b ∨ (Value.slice av nv cv).ownBlock = some k) (T3.out.mono (fun _ _ e => .inl e)) tt (fun _ _ e => e))
    have HO := hid (show _ ∨ _ from ho.imp id (fun ⟨g, e1, e2⟩ => (⟨g, e1, Nat.le_trans T3.out.size e2⟩ : ∃ g, (Value.slice a' n' c').ownBlock = some g ∧ w.heap.size ≤ g)))
    clear hs4 ho tt K3
    go_wp2
    go_ret
    rw [← HX.out]
    exact ⟨ds.length, a', n', c', _, fun _ => False, rfl, S4.out, HO.out, DT.leaf _ _ _ _ _, fun g e => e.elim, T4.out, by have := hu.1; simp at this; simp; omega⟩
  | .error k =>
    have hk := HER.out k rfl
    unfold WantR at K2
    refine K2.out.mono ?_
    rintro e w3 ⟨rfl, hr, tt⟩
    have S3 := hid (S2.out.goes hr tt)
    have T3 := hid (T2.out.trans tt (fun _ _ e => e))
    clear hr tt K2 S2 T2
    have K3 := hid (S3.out.put (by omega) 1 ⟨#[]⟩ none 0 0 none 0 0)
    go_wp2_with fail
    refine K3.out.mono ?_
    rintro e w4 ⟨rfl, a', n', c', hs4, ho, tt⟩
    have S4 := hid hs4
    have T4 := hid (Touch.trans (S := fun k => k = b ∨ (Value.slice av nv cv).ownBlock = some k) (T3.out.mono (fun _ _ e => .inl e)) tt (fun _ _ e => e))
    have HO := hid (show _ ∨ _ from ho.imp id (fun ⟨g, e1, e2⟩ => (⟨g, e1, Nat.le_trans T3.out.size e2⟩ : ∃ g, (Value.slice a' n' c').ownBlock = some g ∧ w.heap.size ≤ g)))
    clear hs4 ho tt K3
    go_wp2
    go_ret
    rw [← HX.out]
    exact ⟨_, k, a', n', c', _, rfl, by omega, S4.out, HO.out, T4.out, by simp; omega⟩
set_option maxRecDepth 100000 in
set_option maxHeartbeats 8000000 in
theorem rvalue_true (lo b : Nat) (s : ByteArray) (t : Nat) (av : Option Addr) (nv cv : Nat) (ds : List Cel) (deep : Nat) (w : World) (h : RS w lo b s t (.slice av nv cv) 0 0 ds) (hs : s.size ≤ 1048576) (ht : t ≤ s.size) (hd : ds.length ≤ t) (hc : lk s (bl s t) = 116) :
    Calls Tryd.prog 18 #[.pointer (some ⟨b, 0, none⟩), .int .i64 (deep : Nat)] w fun e w' => RVP w lo b s t (.slice av nv cv) ds (wordE s [116, 114, 117, 101] 2 (bl s t)) e w' := by
  have hbl := bl_le s t ht
  have hbg := bl_ge s t
  have KB := hid (rblanks_good b s t (.slice av nv cv) w h.rr hs ht)
  have KH := hid (fun w' (hp : Rr w' b s (bl s t) (.slice av nv cv) 0 0) => here_good b s (bl s t) (.slice av nv cv) w' hp (by omega) hs)
  rw [hc] at KH
  have KW := hid (fun w' (hp : Rr w' b s (bl s t) (.slice av nv cv) 0 0) => want_good b s ⟨#[116, 114, 117, 101]⟩ (bl s t) (.slice av nv cv) w' hp hs hbl (by decide))
  rw [show needE s (⟨#[116, 114, 117, 101]⟩ : ByteArray).data.toList (bl s t) = needE s [116, 114, 117, 101] (bl s t) from rfl] at KW
  obtain ⟨X, hX⟩ : ∃ X, X = wordE s [116, 114, 117, 101] 2 (bl s t) := ⟨_, rfl⟩
  have HX := hid hX.symm
  rw [← hX]
  unfold wordE at HX
  have HF := hid (fun u => need_ok s [116, 114, 117, 101] (bl s t) u hbl)
  have HER := hid (fun k h => need_at s [116, 114, 117, 101] (bl s t) k h hbl)
  have HS := hid h
  clear h hX hc
  generalize bl s t = t0 at *
  go_enter Tryd.func18, Tryd.ntmps18
  go_wp2_with fail
  refine KB.out.mono ?_
  rintro e w1 ⟨rfl, hr, tt⟩
  have S1 := hid (HS.out.goes hr tt)
  have T1 := hid tt
  clear hr tt KB
  have K1 := hid (KH.out _ S1.out.rr)
  go_wp2_with fail
  refine K1.out.mono ?_
  rintro e w2 ⟨rfl, tt⟩
  have S2 := hid (S1.out.new tt)
  have T2 := hid (T1.out.trans tt (fun _ _ e => e.elim))
  clear tt K1 S1 T1
  have K2 := hid (KW.out _ S2.out.rr)
  generalize needE s [116, 114, 117, 101] t0 = R at *
  go_wp2_with fail
  match R with
  | .ok u =>
    have hu := HF.out u rfl
    unfold WantR at K2
    refine K2.out.mono ?_
    rintro e w3 ⟨rfl, hr, tt⟩
    have S3 := hid (S2.out.goes hr tt)
    have T3 := hid (T2.out.trans tt (fun _ _ e => e))
    clear hr tt K2 S2 T2
    have K3 := hid (S3.out.put (by omega) 2 ⟨#[]⟩ none 0 0 none 0 0)
    go_wp2_with fail
    refine K3.out.mono ?_
    rintro e w4 ⟨rfl, a', n', c', hs4, ho, tt⟩
    have S4 := hid hs4
    have T4 := hid (Touch.trans (S := fun k => k = b ∨ (Value.slice av nv cv).ownBlock = some k) (T3.out.mono (fun _ _ e => .inl e)) tt (fun _ _ e => e))
    have HO := hid (show _ ∨ _ from ho.imp id (fun ⟨g, e1, e2⟩ => (⟨g, e1, Nat.le_trans T3.out.size e2⟩ : ∃ g, (Value.slice a' n' c').ownBlock = some g ∧ w.heap.size ≤ g)))
    clear hs4 ho tt K3
    go_wp2
    go_ret
    rw [← HX.out]
    exact ⟨ds.length, a', n', c', _, fun _ => False, rfl, S4.out, HO.out, DT.leaf _ _ _ _ _, fun g e => e.elim, T4.out, by have := hu.1; simp at this; simp; omega⟩
  | .error k =>
    have hk := HER.out k rfl
    unfold WantR at K2
    refine K2.out.mono ?_
    rintro e w3 ⟨rfl, hr, tt⟩
    have S3 := hid (S2.out.goes hr tt)
    have T3 := hid (T2.out.trans tt (fun _ _ e => e))
    clear hr tt K2 S2 T2
    have K3 := hid (S3.out.put (by omega) 2 ⟨#[]⟩ none 0 0 none 0 0)
    go_wp2_with fail
    refine K3.out.mono ?_
    rintro e w4 ⟨rfl, a', n', c', hs4, ho, tt⟩
    have S4 := hid hs4
    have T4 := hid (Touch.trans (S := fun k => k = b ∨ (Value.slice av nv cv).ownBlock = some k) (T3.out.mono (fun _ _ e => .inl e)) tt (fun _ _ e => e))
    have HO := hid (show _ ∨ _ from ho.imp id (fun ⟨g, e1, e2⟩ => (⟨g, e1, Nat.le_trans T3.out.size e2⟩ : ∃ g, (Value.slice a' n' c').ownBlock = some g ∧ w.heap.size ≤ g)))
    clear hs4 ho tt K3
    go_wp2
    go_ret
    rw [← HX.out]
    exact ⟨_, k, a', n', c', _, rfl, by omega, S4.out, HO.out, T4.out, by simp; omega⟩
end Go.Proofs.YtjpmjcadnnglnaaDoor
