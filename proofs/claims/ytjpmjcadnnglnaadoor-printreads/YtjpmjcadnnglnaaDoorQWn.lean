/- Texts of this proof, one behind the other: what each says stands ahead of it. -/
import Derived.Test.YtjpmjcadnnglnaaDoorQWk
import Derived.Test.YtjpmjcadnnglnaaDoorQVt
/- The document's parser of JSON: value, given what kids does; conditions: as told. -/
namespace Go.Proofs.YtjpmjcadnnglnaaDoor
open Go.RowKit
open Go.Lib

/-- What kids is asked for. -/
def KidsC (lo b : Nat) (s : ByteArray) (deep : Nat) (f : Nat → JR (JV × Nat)) : Prop := ∀ (kd cl : Int), (kd = 5 ∧ cl = 93) ∨ (kd = 6 ∧ cl = 125) → ∀ (t0 : Nat) (av : Option Addr) (nv cv : Nat) (ds : List Cel) (w : World), t0 < s.size → ds.length ≤ t0 → RS w lo b s (t0 + 1) (.slice av nv cv) 0 0 ds →
  Calls Tryd.prog 34 #[.pointer (some ⟨b, 0, none⟩), .int .i64 cl, .int .i64 ((deep : Int) + 1)] w fun e w' => RVP w lo b s (t0 + 1) (.slice av nv cv) ds (nodeE s kd cl (some f) t0) e w'
theorem rvalue_of (lo b : Nat) (s : ByteArray) (t : Nat) (av : Option Addr) (nv cv : Nat) (ds : List Cel) (deep : Nat) (sub : Option (Nat → JR (JV × Nat))) (w : World) (h : RS w lo b s t (.slice av nv cv) 0 0 ds) (hs : s.size ≤ 1048576) (ht : t ≤ s.size) (hd : ds.length ≤ t) (hdp : deep ≤ 32) (hN : sub = none → deep = 32) (KK : ∀ f, sub = some f → deep < 32 ∧ KidsC lo b s deep f) :
    Calls Tryd.prog 18 #[.pointer (some ⟨b, 0, none⟩), .int .i64 (deep : Nat)] w fun e w' => RVP w lo b s t (.slice av nv cv) ds (bareE s sub (bl s t)) e w' := by
  have hbg := bl_ge s t
  unfold bareE
  by_cases e1 : lk s (bl s t) = 110
  · rw [if_pos e1]
    exact rvalue_null lo b s t av nv cv ds deep w h hs ht hd e1
  rw [if_neg e1]
  by_cases e2 : lk s (bl s t) = 102
  · rw [if_pos e2]
    exact rvalue_false lo b s t av nv cv ds deep w h hs ht hd e2
  rw [if_neg e2]
  by_cases e3 : lk s (bl s t) = 116
  · rw [if_pos e3]
    exact rvalue_true lo b s t av nv cv ds deep w h hs ht hd e3
  rw [if_neg e3]
  by_cases e4 : lk s (bl s t) = 34
  · rw [if_pos e4]
    exact rvalue_text lo b s t av nv cv ds deep w h hs ht hd e4
  rw [if_neg e4]
  by_cases e5 : lk s (bl s t) = 91
  · rw [if_pos e5]
    have hl := (lk_is (c := 91) e5).1
    exact rvalue_list lo b s t av nv cv ds deep sub w h hs ht hd e5 hdp hN (fun f e => ⟨(KK f e).1, fun w' hr => (KK f e).2 5 93 (.inl ⟨rfl, rfl⟩) (bl s t) av nv cv ds w' hl (by omega) hr⟩)
  rw [if_neg e5]
  by_cases e6 : lk s (bl s t) = 123
  · rw [if_pos e6]
    have hl := (lk_is (c := 123) e6).1
    exact rvalue_obj lo b s t av nv cv ds deep sub w h hs ht hd e6 hdp hN (fun f e => ⟨(KK f e).1, fun w' hr => (KK f e).2 6 125 (.inr ⟨rfl, rfl⟩) (bl s t) av nv cv ds w' hl (by omega) hr⟩)
  rw [if_neg e6]
  exact rvalue_num lo b s t av nv cv ds deep w h hs ht hd ⟨e1, e2, e3, e4, e5, e6⟩
end Go.Proofs.YtjpmjcadnnglnaaDoor

/- The document's parser of JSON, plain: what stands in brackets, item by item; conditions: as told. -/
namespace Go.Proofs.YtjpmjcadnnglnaaDoor
open Go.RowKit
open Go.Lib

/-- What stands in brackets, from an item on. -/
def kdF (s : ByteArray) (cl : Int) (one : Nat → JR (ByteArray × JV × Nat)) : Nat → Nat → JR (List (ByteArray × JV) × Nat)
  | 0, _ => .error (0, 0)
  | f + 1, u => match one u with
    | .error e => .error e
    | .ok (k, x, v) => if lk s v = cl then .ok ([(k, x)], v + 1) else if lk s v = 44 then pre [(k, x)] (kdF s cl one f (v + 1)) else .error (20, v)
theorem end_pre (s : ByteArray) (cl : Int) (a : List (ByteArray × JV)) (r : JR (List (ByteArray × JV) × Nat)) : endE s cl (pre a r) = pre a (endE s cl r) := by
  match r with
  | .error e => rfl
  | .ok (l, u) =>
    show endE s cl (.ok (a ++ l, u)) = pre a (endE s cl (.ok (l, u)))
    unfold endE
    simp only
    split
    · rfl
    · rfl
theorem kd_tl {s : ByteArray} {cl : Int} {one : Nat → JR (ByteArray × JV × Nat)} (H : Fwd3 s one) (hcl : cl ≠ 44) : ∀ (g f u : Nat), u ≤ s.size → s.size ≤ u + f → s.size < u + g →
    (match one u with
    | .error e => .error e
    | .ok (k, x, v) => endE s cl (pre [(k, x)] (tlF s one f v))) = kdF s cl one g u
  | 0, f, u, hu, _, hg => by omega
  | g + 1, f, u, hu, hf, hg => by
    rw [kdF]
    match ho : one u with
    | .error e => rfl
    | .ok (k, x, v) =>
      have hv := H u k x v hu ho
      simp only
      by_cases e1 : lk s v = cl
      · rw [if_pos e1, tl_end (by rw [e1]; exact hcl)]
        show endE s cl (.ok ([(k, x)], v)) = _
        unfold endE
        simp only
        rw [if_pos e1]
      · rw [if_neg e1]
        by_cases e2 : lk s v = 44
        · rw [if_pos e2]
          have hlt := (lk_is (c := 44) e2).1
          obtain ⟨f', rfl⟩ : ∃ f', f = f' + 1 := ⟨f - 1, by omega⟩
          rw [tlF, if_pos e2, ← kd_tl H hcl g f' (v + 1) hlt (by omega) (by omega), end_pre]
          match one (v + 1) with
          | .error e => rfl
          | .ok (k2, x2, v2) => rfl
        · rw [if_neg e2, tl_end e2]
          show endE s cl (.ok ([(k, x)], v)) = _
          unfold endE
          simp only
          rw [if_neg e1]
theorem row_kd {s : ByteArray} {cl : Int} {one : Nat → JR (ByteArray × JV × Nat)} (H : Fwd3 s one) (hcl : cl ≠ 44) {t : Nat} (ht : t < s.size) :
    rowE s cl one t = if lk s (bl s (t + 1)) = cl then .ok ([], bl s (t + 1) + 1) else kdF s cl one (s.size + 1) (bl s (t + 1)) := by
  unfold rowE
  split
  · rfl
  · have h2 := bl_le s (t + 1) ht
    refine Eq.trans ?_ (kd_tl H hcl (s.size + 1) s.size (bl s (t + 1)) h2 (by omega) (by omega))
    match one (bl s (t + 1)) with
    | .error e => rfl
    | .ok (k, x, v) => rfl
theorem bl_bl (s : ByteArray) (t : Nat) : bl s (bl s t) = bl s t := by
  rw [bl_at s (bl s t), if_neg (bl_no s t)]
end Go.Proofs.YtjpmjcadnnglnaaDoor

/- The document's parser of JSON: what its parts do, whether something is wrong already or not; conditions: as told. -/
namespace Go.Proofs.YtjpmjcadnnglnaaDoor
open Go.RowKit
open Go.Lib

theorem rblanks_all (b : Nat) (s : ByteArray) (t : Nat) (V : Value) (er ea : Nat) (w : World) (h : Rr w b s t V er ea) (hs : s.size ≤ 1048576) (hf : er = 0 → ea = 0 ∧ t ≤ s.size) :
    Calls Tryd.prog 19 #[.pointer (some ⟨b, 0, none⟩)] w fun e w' => e = .returned (.tuple #[]) ∧ Rr w' b s (if er = 0 then bl s t else t) V er ea ∧ Touch (fun k => k = b) w w' := by
  by_cases he : er = 0
  · subst he
    obtain ⟨rfl, ht⟩ := hf rfl
    exact rblanks_good b s t V w h hs ht
  · rw [if_neg he]
    exact (rblanks_err b s t V er ea w h he).mono (fun e w' ⟨h1, h2⟩ => ⟨h1, h.new h2, h2.mono (fun _ _ e => e.elim)⟩)
theorem here_all (b : Nat) (s : ByteArray) (t : Nat) (V : Value) (er ea : Nat) (w : World) (h : Rr w b s t V er ea) (hs : s.size ≤ 1048576) (hf : er = 0 → ea = 0 ∧ t ≤ s.size) :
    Calls Tryd.prog 30 #[.pointer (some ⟨b, 0, none⟩)] w fun e w' => e = .returned (.int .i64 (if er = 0 then lk s t else -1)) ∧ Touch (fun _ => False) w w' := by
  by_cases he : er = 0
  · subst he
    obtain ⟨rfl, ht⟩ := hf rfl
    exact here_good b s t V w h (by omega) hs
  · rw [if_neg he]
    exact here_err b s t V er ea w h he
/-- What want leaves. -/
def WantQ (s : ByteArray) (p : Bs) (t er ea t' er' ea' : Nat) : Prop := (er = 0 ∧ needE s p t = .ok t' ∧ er' = 0 ∧ ea' = 0) ∨ (er = 0 ∧ needE s p t = .error t' ∧ er' = 20 ∧ ea' = t') ∨ (er ≠ 0 ∧ t' = t ∧ er' = er ∧ ea' = ea)
theorem want_all (b : Nat) (s : ByteArray) (p : ByteArray) (t : Nat) (V : Value) (er ea : Nat) (w : World) (h : Rr w b s t V er ea) (hs : s.size ≤ 1048576) (hp : p.size ≤ 1000) (hf : er = 0 → ea = 0 ∧ t ≤ s.size) :
    Calls Tryd.prog 31 #[.pointer (some ⟨b, 0, none⟩), .string p] w fun e w' => e = .returned (.tuple #[]) ∧ ∃ t' er' ea', Rr w' b s t' V er' ea' ∧ WantQ s p.data.toList t er ea t' er' ea' ∧ Touch (fun k => k = b) w w' := by
  by_cases he : er = 0
  · subst he
    obtain ⟨rfl, ht⟩ := hf rfl
    refine (want_good b s p t V w h hs ht hp).mono ?_
    intro e w' hw
    match hn : needE s p.data.toList t with
    | .ok u =>
      rw [hn] at hw
      exact ⟨hw.1, u, 0, 0, hw.2.1, .inl ⟨rfl, hn, rfl, rfl⟩, hw.2.2⟩
    | .error k =>
      rw [hn] at hw
      exact ⟨hw.1, k, 20, k, hw.2.1, .inr (.inl ⟨rfl, hn, rfl, rfl⟩), hw.2.2⟩
  · exact (want_err b s p t V er ea w h he hp).mono (fun e w' ⟨h1, h2⟩ => ⟨h1, t, er, ea, h.new h2, .inr (.inr ⟨he, rfl, rfl, rfl⟩), h2.mono (fun _ _ e => e.elim)⟩)
/-- What text leaves. -/
def TextQ (s : ByteArray) (t er ea : Nat) (o : ByteArray) (t' er' ea' : Nat) : Prop := (er = 0 ∧ (∃ l, quotE s t = .ok (l, t') ∧ o = ⟨l.toArray⟩) ∧ er' = 0 ∧ ea' = 0) ∨ (er = 0 ∧ quotE s t = .error ea' ∧ er' = 20 ∧ t' ≤ s.size + 1) ∨ (er ≠ 0 ∧ t' = t ∧ er' = er ∧ ea' = ea)
theorem text_all (b : Nat) (s : ByteArray) (t : Nat) (V : Value) (er ea : Nat) (w : World) (h : Rr w b s t V er ea) (hs : s.size ≤ 1048576) (hf : er = 0 → ea = 0 ∧ t ≤ s.size) :
    Calls Tryd.prog 33 #[.pointer (some ⟨b, 0, none⟩)] w fun e w' => ∃ o t' er' ea', e = .returned (.string o) ∧ Rr w' b s t' V er' ea' ∧ TextQ s t er ea o t' er' ea' ∧ Touch (fun k => k = b) w w' := by
  by_cases he : er = 0
  · subst he
    obtain ⟨rfl, ht⟩ := hf rfl
    refine (rtext_good b s t V w h hs ht).mono ?_
    intro e w' hw
    match hn : quotE s t with
    | .ok (l, u) =>
      rw [hn] at hw
      exact ⟨_, u, 0, 0, hw.1, hw.2.1, .inl ⟨rfl, ⟨l, hn, rfl⟩, rfl, rfl⟩, hw.2.2⟩
    | .error k =>
      rw [hn] at hw
      obtain ⟨o, u, h1, h2, h3, h4⟩ := hw
      exact ⟨o, u, 20, k, h1, h3, .inr (.inl ⟨rfl, hn, rfl, h2⟩), h4⟩
  · exact (rtext_err b s t V er ea w h he).mono (fun e w' ⟨h1, h2⟩ => ⟨_, t, er, ea, h1, h.new h2, .inr (.inr ⟨he, rfl, rfl, rfl⟩), h2.mono (fun _ _ e => e.elim)⟩)
/-- What value is asked for. -/
def ValC (lo b : Nat) (s : ByteArray) (dp : Nat) (sub : Option (Nat → JR (JV × Nat))) : Prop := ∀ (t : Nat) (av : Option Addr) (nv cv : Nat) (ds : List Cel) (w : World), RS w lo b s t (.slice av nv cv) 0 0 ds → t ≤ s.size → ds.length ≤ t →
  Calls Tryd.prog 18 #[.pointer (some ⟨b, 0, none⟩), .int .i64 (dp : Nat)] w fun e w' => RVP w lo b s t (.slice av nv cv) ds (bareE s sub (bl s t)) e w'
/-- What value leaves, plain. -/
def ValQ (s : ByteArray) (sub : Option (Nat → JR (JV × Nat))) (t er ea : Nat) (ds : List Cel) (w' : World) (r : Int) (t' er' ea' : Nat) (ds' : List Cel) (B : Nat → Prop) : Prop :=
  (er = 0 ∧ er' = 0 ∧ ea' = 0 ∧ ∃ x p es, bareE s sub (bl s t) = .ok (x, t') ∧ ds' = ds ++ es ∧ r = (p : Nat) ∧ DT w' B ds' p x ∧ es.length + t ≤ t') ∨
  (er' ≠ 0 ∧ (er = 0 ∧ bareE s sub (bl s t) = .error (er', ea') ∧ t' ≤ s.size + 1 ∧ ds'.length ≤ s.size + 1 ∨ er ≠ 0 ∧ t' = t ∧ er' = er ∧ ea' = ea ∧ ds' = ds))
theorem value_all {lo b : Nat} {s : ByteArray} {dp : Nat} {sub : Option (Nat → JR (JV × Nat))} (KV : ValC lo b s dp sub) (HE : ∀ t, ErrN (bareE s sub t)) (t : Nat) (av : Option Addr) (nv cv : Nat) (er ea : Nat) (ds : List Cel) (w : World) (h : RS w lo b s t (.slice av nv cv) er ea ds) (hf : er = 0 → ea = 0 ∧ t ≤ s.size) (hd : er = 0 → ds.length ≤ t) :
    Calls Tryd.prog 18 #[.pointer (some ⟨b, 0, none⟩), .int .i64 (dp : Nat)] w fun e w' => ∃ r t' er' ea' a' n' c' ds' B, e = .returned (.int .i64 r) ∧ RS w' lo b s t' (.slice a' n' c') er' ea' ds' ∧ ((Value.slice a' n' c').ownBlock = (Value.slice av nv cv).ownBlock ∨ ∃ g, (Value.slice a' n' c').ownBlock = some g ∧ w.heap.size ≤ g) ∧ (∀ g, B g → w.heap.size ≤ g ∧ g < w'.heap.size ∧ (Value.slice a' n' c').ownBlock ≠ some g) ∧ Touch (fun k => k = b ∨ (Value.slice av nv cv).ownBlock = some k) w w' ∧ ValQ s sub t er ea ds w' r t' er' ea' ds' B := by
  by_cases he : er = 0
  · subst he
    obtain ⟨rfl, ht⟩ := hf rfl
    refine (KV t av nv cv ds w h ht (hd rfl)).mono ?_
    intro e w' hw
    match hn : bareE s sub (bl s t) with
    | .ok (x, u) =>
      rw [hn] at hw
      obtain ⟨p, a', n', c', es, B, h1, h2, h3, h4, h5, h6, h7⟩ := hw
      exact ⟨_, u, 0, 0, a', n', c', _, B, h1, h2, h3, h5, h6, .inl ⟨rfl, rfl, rfl, x, p, es, hn, rfl, rfl, h4, h7⟩⟩
    | .error (c, k) =>
      rw [hn] at hw
      obtain ⟨r, u, a', n', c', ds', h1, h2, h3, h4, h5, h6⟩ := hw
      exact ⟨r, u, c, k, a', n', c', ds', fun _ => False, h1, h3, h4, fun g e => e.elim, h5, .inr ⟨HE _ c k hn, .inl ⟨rfl, hn, h2, h6⟩⟩⟩
  · refine (rvalue_err b s t (.slice av nv cv) er ea dp w h.rr he).mono ?_
    rintro e w' ⟨h1, h2⟩
    exact ⟨_, t, er, ea, av, nv, cv, ds, fun _ => False, h1, h.new h2, .inl rfl, fun g e => e.elim, h2.mono (fun _ _ e => e.elim), .inr ⟨he, .inr ⟨he, rfl, rfl, rfl, rfl⟩⟩⟩
/-! ### A list or an object of the document's that is being read -/
def KIs (w : World) (v : Value) (is : List Int) : Prop := w.ownsRow 0 3 1 v is.length (is.map fun k => .int .i64 k)
structure KS (w : World) (lo b bv : Nat) (s : ByteArray) (t : Nat) (V : Value) (er ea : Nat) (ds : List Cel) (kd : Int) (v2 v3 : Value) (ks : List ByteArray) (is : List Int) (B : Nat → Prop) : Prop where
  rs : RS w lo b s t V er ea ds
  obj : w.heap[bv]? = some (.cells #[.int .i64 kd, .string ⟨#[]⟩, v2, v3] 53 (0, 0))
  keys : SL w v2 ks
  kids : KIs w v3 is
  new2 : ∀ g, v2.ownBlock = some g → bv < g
  new3 : ∀ g, v3.ownBlock = some g → bv < g
  nV : V.ownBlock ≠ some bv
  low : b < bv
  newB : ∀ g, B g → bv < g ∧ g < w.heap.size
  apB : ∀ g, B g → v2.ownBlock ≠ some g ∧ v3.ownBlock ≠ some g ∧ V.ownBlock ≠ some g
theorem rows_apart {w : World} {e e' : TypeId} {sz sz' n n' : Nat} {v v' : Value} {xs xs' : List Value} (h : w.ownsRow 0 e sz v n xs) (h' : w.ownsRow 0 e' sz' v' n' xs') (he : e ≠ e') : ∀ g, v.ownBlock = some g → v'.ownBlock ≠ some g := by
  intro g e2 e3
  rcases h.2 with ⟨hv, _⟩ | ⟨g2, _, _, hv, _, hh, _⟩
  · rw [hv] at e2
    cases e2
  · rcases h'.2 with ⟨hv3, _⟩ | ⟨g3, _, _, hv3, _, hh3, _⟩
    · rw [hv3] at e3
      cases e3
    · rw [hv] at e2
      rw [hv3] at e3
      cases e2
      cases e3
      rw [hh] at hh3
      injection hh3 with hh3
      injection hh3 with _ hh3
      exact he hh3
/-- The trees of what was read. -/
def Tr (w : World) (B : Nat → Prop) (ds : List Cel) (is : List Int) (xs : List JV) : Prop := ∃ ps : List Nat, is = ps.map (fun (k : Nat) => (k : Int)) ∧ ps.length = xs.length ∧ ∀ (i q : Nat) (x : JV), ps[i]? = some q → xs[i]? = some x → DT w B ds q x
theorem Tr.kept {w w' : World} {B S : Nat → Prop} {ds : List Cel} {is : List Int} {xs : List JV} (h : Tr w B ds is xs) (tc : Touch S w w') (hS : ∀ g, B g → ¬ S g) : Tr w' B ds is xs := by
  obtain ⟨ps, h1, h2, h3⟩ := h
  exact ⟨ps, h1, h2, fun i q x e1 e2 => (h3 i q x e1 e2).kept tc hS⟩
theorem Tr.more {w : World} {B B' : Nat → Prop} {ds : List Cel} {is : List Int} {xs : List JV} (h : Tr w B ds is xs) (hS : ∀ g, B g → B' g) (es : List Cel) : Tr w B' (ds ++ es) is xs := by
  obtain ⟨ps, h1, h2, h3⟩ := h
  exact ⟨ps, h1, h2, fun i q x e1 e2 => (h3 i q x e1 e2).more hS es⟩
theorem Tr.nil (w : World) (B : Nat → Prop) (ds : List Cel) : Tr w B ds [] [] := ⟨[], rfl, rfl, fun i q x e => by cases e⟩
theorem Tr.push {w : World} {B : Nat → Prop} {ds : List Cel} {is : List Int} {xs : List JV} (h : Tr w B ds is xs) {p : Nat} {x : JV} (hp : DT w B ds p x) : Tr w B ds (is ++ [(p : Int)]) (xs ++ [x]) := by
  obtain ⟨ps, h1, h2, h3⟩ := h
  refine ⟨ps ++ [p], by rw [h1]; simp, by simp [h2], ?_⟩
  intro i q y e1 e2
  by_cases hi : i < ps.length
  · rw [List.getElem?_append_left hi] at e1
    rw [List.getElem?_append_left (by omega)] at e2
    exact h3 i q y e1 e2
  · have hi2 : i = ps.length := by
      obtain ⟨hlt, _⟩ := List.getElem?_eq_some_iff.1 e1
      rw [List.length_append, List.length_singleton] at hlt
      omega
    subst hi2
    rw [List.getElem?_append_right (Nat.le_refl _), Nat.sub_self] at e1
    rw [h2, List.getElem?_append_right (Nat.le_refl _), Nat.sub_self] at e2
    cases e1
    cases e2
    exact hp
section
variable {w w' : World} {lo b bv : Nat} {s : ByteArray} {t : Nat} {V : Value} {er ea : Nat} {ds : List Cel} {kd : Int} {v2 v3 : Value} {ks : List ByteArray} {is : List Int} {B : Nat → Prop} {xs : List JV}
theorem KS.goes (h : KS w lo b bv s t V er ea ds kd v2 v3 ks is B) {t' er' ea' : Nat} (hp : Rr w' b s t' V er' ea') (tc : Touch (fun k => k = b) w w') : KS w' lo b bv s t' V er' ea' ds kd v2 v3 ks is B := by
  have l := h.low
  exact ⟨h.rs.goes hp tc, (tc.block bv (lt_of_block h.obj) (by omega)).trans h.obj, rowKept h.keys tc (fun g e e2 => by have := h.new2 g e; omega), rowKept h.kids tc (fun g e e2 => by have := h.new3 g e; omega), h.new2, h.new3, h.nV, h.low, fun g e => by have := h.newB g e; have := tc.size; omega, h.apB⟩
theorem KS.tr (h : KS w lo b bv s t V er ea ds kd v2 v3 ks is B) (k : Tr w B ds is xs) (tc : Touch (fun k => k = b) w w') : Tr w' B ds is xs := k.kept tc (fun g e e2 => by have := h.newB g e; have := h.low; omega)
theorem KS.still (h : KS w lo b bv s t V er ea ds kd v2 v3 ks is B) (tc : Touch (fun _ => False) w w') : KS w' lo b bv s t V er ea ds kd v2 v3 ks is B := h.goes (h.rs.rr.new tc) (tc.mono (fun _ _ e => e.elim))
theorem KS.apart (h : KS w lo b bv s t V er ea ds kd v2 v3 ks is B) : ∀ g, v2.ownBlock = some g → v3.ownBlock ≠ some g := rows_apart h.keys h.kids (by decide)
theorem KS.apart2 (h : KS w lo b bv s t V er ea ds kd v2 v3 ks is B) : ∀ g, v2.ownBlock = some g → V.ownBlock ≠ some g := rows_apart h.keys h.rs.dl (by decide)
theorem KS.apart3 (h : KS w lo b bv s t V er ea ds kd v2 v3 ks is B) : ∀ g, v3.ownBlock = some g → V.ownBlock ≠ some g := rows_apart h.kids h.rs.dl (by decide)
/-- value was called. -/
theorem KS.valued (h : KS w lo b bv s t V er ea ds kd v2 v3 ks is B) {t' er' ea' : Nat} {V' : Value} {ds' : List Cel} {B' : Nat → Prop} (hr : RS w' lo b s t' V' er' ea' ds') (ho : V'.ownBlock = V.ownBlock ∨ ∃ g, V'.ownBlock = some g ∧ w.heap.size ≤ g) (hB : ∀ g, B' g → w.heap.size ≤ g ∧ g < w'.heap.size ∧ V'.ownBlock ≠ some g) (tc : Touch (fun k => k = b ∨ V.ownBlock = some k) w w') :
    KS w' lo b bv s t' V' er' ea' ds' kd v2 v3 ks is (fun g => B g ∨ B' g) := by
  have l := h.low
  have lv := lt_of_block h.obj
  have hne : ∀ g, g < w.heap.size → V.ownBlock ≠ some g → V'.ownBlock ≠ some g := by
    intro g hg hv e
    rcases ho with e2 | ⟨g2, e2, hg2⟩
    · exact hv (by rw [← e2]; exact e)
    · rw [e2] at e
      cases e
      omega
  refine ⟨hr, (tc.block bv lv (fun e => by rcases e with e | e; omega; exact h.nV e)).trans h.obj, rowKept h.keys tc (fun g e e2 => ?_), rowKept h.kids tc (fun g e e2 => ?_), h.new2, h.new3, hne bv lv h.nV, l, ?_, ?_⟩
  · have := h.new2 g e
    rcases e2 with e2 | e2
    · omega
    · exact h.apart2 g e e2
  · have := h.new3 g e
    rcases e2 with e2 | e2
    · omega
    · exact h.apart3 g e e2
  · intro g e
    have hz := tc.size
    rcases e with e | e
    · have := h.newB g e
      omega
    · have := hB g e
      omega
  · intro g e
    rcases e with e | e
    · have a := h.apB g e
      exact ⟨a.1, a.2.1, hne g (h.newB g e).2 a.2.2⟩
    · have a := hB g e
      refine ⟨fun e2 => ?_, fun e2 => ?_, a.2.2⟩
      · have := own_lt h.keys g e2
        omega
      · have := own_lt h.kids g e2
        omega
theorem KS.trv (h : KS w lo b bv s t V er ea ds kd v2 v3 ks is B) (k : Tr w B ds is xs) (tc : Touch (fun k => k = b ∨ V.ownBlock = some k) w w') : Tr w' B ds is xs := k.kept tc (fun g e e2 => by
  have := h.newB g e
  have := h.low
  rcases e2 with e2 | e2
  · omega
  · exact (h.apB g e).2.2 e2)
end
theorem block_setv {w : World} {q : Nat} {a b c d : Value} (h : w.heap[q]? = some (.cells #[a, b, c, d] 53 (0, 0))) (x : Value) : (w.setCell ⟨q, 2, none⟩ x).heap[q]? = some (.cells #[a, b, x, d] 53 (0, 0)) := block_set h 2 x
theorem block_setw {w : World} {q : Nat} {a b c d : Value} (h : w.heap[q]? = some (.cells #[a, b, c, d] 53 (0, 0))) (x : Value) : (w.setCell ⟨q, 3, none⟩ x).heap[q]? = some (.cells #[a, b, c, x] 53 (0, 0)) := block_set h 3 x
/-- A key was put behind. -/
theorem KS.keyed {w2 w3 : World} {lo b bv : Nat} {s : ByteArray} {t : Nat} {V : Value} {er ea : Nat} {ds : List Cel} {kd : Int} {a2 : Option Addr} {n2 c2 : Nat} {v3 : Value} {ks : List ByteArray} {is : List Int} {B : Nat → Prop} {K : ByteArray} {v' : Value} {o : Obj} (h : KS w2 lo b bv s t V er ea ds kd (.slice a2 n2 c2) v3 ks is B)
    (hn : n2 = ks.length) (hown : w3.ownsRow 0 9 1 v' (n2 + 1) (ks.map Value.string ++ [.string K])) (hg : (w2.alloc o).grownBy w3 (Value.slice a2 n2 c2).ownBlock) (hat : v'.ownBlock = (Value.slice a2 n2 c2).ownBlock ∨ v'.ownBlock = some (w2.heap.size + 1)) :
    KS (w3.setCell ⟨bv, 2, none⟩ v') lo b bv s t V er ea ds kd v' v3 (ks ++ [K]) is B ∧ Touch (fun k => k = bv ∨ (Value.slice a2 n2 c2).ownBlock = some k) w2 (w3.setCell ⟨bv, 2, none⟩ v') := by
  have l := h.low
  have lv := lt_of_block h.obj
  have TG : Touch (fun k => (Value.slice a2 n2 c2).ownBlock = some k) w2 w3 := Touch.grown ((Touch.refl _ w2).alloc o) hg (fun k e _ => e)
  have T3 : Touch (fun k => k = bv) w3 (w3.setCell ⟨bv, 2, none⟩ v') := Touch.setCell (S := fun k => k = bv) (Touch.refl _ _) (p := ⟨bv, 2, none⟩) (fun _ => rfl) v'
  have TT := Touch.trans (S := fun k => k = bv ∨ (Value.slice a2 n2 c2).ownBlock = some k) (TG.mono (fun _ _ e => .inr e)) T3 (fun _ _ e => .inl e)
  have Q3 := (TG.block bv lv (fun e => by have := h.new2 _ e; omega)).trans h.obj
  have N : ∀ g, v'.ownBlock = some g → bv < g ∧ (g < w2.heap.size → (Value.slice a2 n2 c2).ownBlock = some g) := by
    intro g e
    rcases hat with e2 | e2
    · exact ⟨h.new2 g (by rw [← e2]; exact e), fun _ => by rw [← e2]; exact e⟩
    · rw [e2] at e
      cases e
      exact ⟨by omega, fun hh => by omega⟩
  have hb : ¬ (b = bv ∨ (Value.slice a2 n2 c2).ownBlock = some b) := by
    intro e
    rcases e with e | e
    · omega
    · have := h.new2 b e
      omega
  refine ⟨⟨⟨(TT.block b h.rs.rr.lt hb).trans h.rs.rr, rowKept h.rs.dl TT (fun g e e2 => ?_), h.rs.nv, h.rs.low.1, Nat.le_trans h.rs.low.2 TT.size⟩, block_setv Q3 v', ?_, rowKept h.kids TT (fun g e e2 => ?_), fun g e => (N g e).1, h.new3, h.nV, l, fun g e => ?_, fun g e => ?_⟩, TT⟩
  · rcases e2 with e2 | e2
    · exact h.nV (by rw [← e2]; exact e)
    · exact h.apart2 g e2 e
  · have := rowKept hown T3 (fun g e e2 => by have := (N g e).1; omega)
    unfold SL
    rw [List.length_append, List.map_append, ← hn]
    exact this
  · have := h.new3 g e
    rcases e2 with e2 | e2
    · omega
    · exact h.apart g e2 e
  · have := h.newB g e
    have := TT.size
    omega
  · have a := h.apB g e
    exact ⟨fun e2 => a.1 ((N g e2).2 (h.newB g e).2), a.2⟩
theorem KS.trk {w w' : World} {lo b bv : Nat} {s : ByteArray} {t : Nat} {V : Value} {er ea : Nat} {ds : List Cel} {kd : Int} {v2 v3 : Value} {ks : List ByteArray} {is : List Int} {B : Nat → Prop} {xs : List JV} (h : KS w lo b bv s t V er ea ds kd v2 v3 ks is B) (k : Tr w B ds is xs) (tc : Touch (fun k => k = bv ∨ v2.ownBlock = some k) w w') : Tr w' B ds is xs := k.kept tc (fun g e e2 => by
  have := h.newB g e
  rcases e2 with e2 | e2
  · omega
  · exact (h.apB g e).1 e2)
/-- A place was put behind. -/
theorem KS.kidded {w2 w3 : World} {lo b bv : Nat} {s : ByteArray} {t : Nat} {V : Value} {er ea : Nat} {ds : List Cel} {kd : Int} {v2 : Value} {a3 : Option Addr} {n3 c3 : Nat} {ks : List ByteArray} {is : List Int} {B : Nat → Prop} {K : Int} {v' : Value} {o : Obj} (h : KS w2 lo b bv s t V er ea ds kd v2 (.slice a3 n3 c3) ks is B)
    (hn : n3 = is.length) (hown : w3.ownsRow 0 3 1 v' (n3 + 1) (is.map (fun k => .int .i64 k) ++ [.int .i64 K])) (hg : (w2.alloc o).grownBy w3 (Value.slice a3 n3 c3).ownBlock) (hat : v'.ownBlock = (Value.slice a3 n3 c3).ownBlock ∨ v'.ownBlock = some (w2.heap.size + 1)) :
    KS (w3.setCell ⟨bv, 3, none⟩ v') lo b bv s t V er ea ds kd v2 v' ks (is ++ [K]) B ∧ Touch (fun k => k = bv ∨ (Value.slice a3 n3 c3).ownBlock = some k) w2 (w3.setCell ⟨bv, 3, none⟩ v') := by
  have l := h.low
  have lv := lt_of_block h.obj
  have TG : Touch (fun k => (Value.slice a3 n3 c3).ownBlock = some k) w2 w3 := Touch.grown ((Touch.refl _ w2).alloc o) hg (fun k e _ => e)
  have T3 : Touch (fun k => k = bv) w3 (w3.setCell ⟨bv, 3, none⟩ v') := Touch.setCell (S := fun k => k = bv) (Touch.refl _ _) (p := ⟨bv, 3, none⟩) (fun _ => rfl) v'
  have TT := Touch.trans (S := fun k => k = bv ∨ (Value.slice a3 n3 c3).ownBlock = some k) (TG.mono (fun _ _ e => .inr e)) T3 (fun _ _ e => .inl e)
  have Q3 := (TG.block bv lv (fun e => by have := h.new3 _ e; omega)).trans h.obj
  have N : ∀ g, v'.ownBlock = some g → bv < g ∧ (g < w2.heap.size → (Value.slice a3 n3 c3).ownBlock = some g) := by
    intro g e
    rcases hat with e2 | e2
    · exact ⟨h.new3 g (by rw [← e2]; exact e), fun _ => by rw [← e2]; exact e⟩
    · rw [e2] at e
      cases e
      exact ⟨by omega, fun hh => by omega⟩
  have hb : ¬ (b = bv ∨ (Value.slice a3 n3 c3).ownBlock = some b) := by
    intro e
    rcases e with e | e
    · omega
    · have := h.new3 b e
      omega
  refine ⟨⟨⟨(TT.block b h.rs.rr.lt hb).trans h.rs.rr, rowKept h.rs.dl TT (fun g e e2 => ?_), h.rs.nv, h.rs.low.1, Nat.le_trans h.rs.low.2 TT.size⟩, block_setw Q3 v', rowKept h.keys TT (fun g e e2 => ?_), ?_, h.new2, fun g e => (N g e).1, h.nV, l, fun g e => ?_, fun g e => ?_⟩, TT⟩
  · rcases e2 with e2 | e2
    · exact h.nV (by rw [← e2]; exact e)
    · exact h.apart3 g e2 e
  · have := h.new2 g e
    rcases e2 with e2 | e2
    · omega
    · exact h.apart g e e2
  · have := rowKept hown T3 (fun g e e2 => by have := (N g e).1; omega)
    unfold KIs
    rw [List.length_append, List.map_append, ← hn]
    exact this
  · have := h.newB g e
    have := TT.size
    omega
  · have a := h.apB g e
    exact ⟨a.1, fun e2 => a.2.1 ((N g e2).2 (h.newB g e).2), a.2.2⟩
theorem KS.tri {w w' : World} {lo b bv : Nat} {s : ByteArray} {t : Nat} {V : Value} {er ea : Nat} {ds : List Cel} {kd : Int} {v2 v3 : Value} {ks : List ByteArray} {is : List Int} {B : Nat → Prop} {xs : List JV} (h : KS w lo b bv s t V er ea ds kd v2 v3 ks is B) (k : Tr w B ds is xs) (tc : Touch (fun k => k = bv ∨ v3.ownBlock = some k) w w') : Tr w' B ds is xs := k.kept tc (fun g e e2 => by
  have := h.newB g e
  rcases e2 with e2 | e2
  · omega
  · exact (h.apB g e).2.1 e2)
/-- All of it is one tree. -/
theorem Tr.node {w w' : World} {lo b bv : Nat} {s : ByteArray} {t : Nat} {V : Value} {er ea : Nat} {ds : List Cel} {kd : Int} {a2 a3 : Option Addr} {n2 c2 n3 c3 : Nat} {ks : List ByteArray} {is : List Int} {B : Nat → Prop} {xs : List JV} (h : KS w lo b bv s t V er ea ds kd (.slice a2 n2 c2) (.slice a3 n3 c3) ks is B) (k : Tr w B ds is xs) (tc : Touch (fun k => k = b ∨ V.ownBlock = some k) w w') :
    DT w' (fun g => B g ∨ (Value.slice a2 n2 c2).ownBlock = some g ∨ (Value.slice a3 n3 c3).ownBlock = some g) (ds ++ [⟨kd, ⟨#[]⟩, .slice a2 n2 c2, .slice a3 n3 c3⟩]) ds.length (.node kd ⟨#[]⟩ ks xs) := by
  have l := h.low
  have k2 := h.trv k tc
  obtain ⟨ps, h1, h2, h3⟩ := k2
  refine .mk _ kd ⟨#[]⟩ _ _ ks ps xs (by rw [List.getElem?_append_right (Nat.le_refl _), Nat.sub_self]; rfl) (rowKept h.keys tc (fun g e e2 => ?_)) (fun g e => .inr (.inl e)) ?_ (fun g e => .inr (.inr e)) h2 (fun i q x e1 e2 => (h3 i q x e1 e2).more (fun g e => .inl e) _)
  · have := h.new2 g e
    rcases e2 with e2 | e2
    · omega
    · exact h.apart2 g e e2
  · have hk := rowKept h.kids tc (fun g e e2 => by
      have := h.new3 g e
      rcases e2 with e2 | e2
      · omega
      · exact h.apart3 g e e2)
    rw [h1, List.length_map, List.map_map] at hk
    exact hk
end Go.Proofs.YtjpmjcadnnglnaaDoor

/- The document's parser of JSON, plain: a round of kids; conditions: as told. -/
namespace Go.Proofs.YtjpmjcadnnglnaaDoor
open Go.RowKit
open Go.Lib

/-- What was read in a round. -/
def OneQ (s : ByteArray) (one : Nat → JR (ByteArray × JV × Nat)) (t : Nat) (ds : List Cel) (w' : World) (o : ByteArray) (r : Int) (t2 er2 ea2 : Nat) (ds2 : List Cel) (B : Nat → Prop) : Prop :=
  (er2 = 0 ∧ ea2 = 0 ∧ t2 ≤ s.size ∧ ∃ x p es, one t = .ok (o, x, bl s t2) ∧ ds2 = ds ++ es ∧ r = (p : Nat) ∧ DT w' B ds2 p x ∧ es.length + t ≤ t2) ∨ (er2 ≠ 0 ∧ one t = .error (er2, ea2) ∧ t2 ≤ s.size + 1 ∧ ds2.length ≤ s.size + 1)
theorem one_five {s : ByteArray} {sub : Option (Nat → JR (JV × Nat))} {t : Nat} {ds : List Cel} {w' : World} {r : Int} {t2 er2 ea2 : Nat} {ds2 : List Cel} {B : Nat → Prop} (HF : Fwd s (bareE s sub)) (ht : t ≤ s.size) (h : ValQ s sub (bl s t) 0 0 ds w' r t2 er2 ea2 ds2 B) : OneQ s (oneE s 5 (valE s sub)) t ds w' ⟨#[]⟩ r t2 er2 ea2 ds2 B := by
  have h1 := bl_ge s t
  have h2 := bl_le s t ht
  rw [one_lst]
  unfold ValQ at h
  rw [bl_bl] at h
  rcases h with ⟨_, rfl, rfl, x, p, es, e1, e2, e3, e4, e5⟩ | ⟨hn, h⟩
  · have g := HF _ x t2 h2 e1
    refine .inl ⟨rfl, rfl, g.2, x, p, es, ?_, e2, e3, e4, by omega⟩
    unfold lstE valE
    rw [e1]
  · rcases h with ⟨_, e1, e2, e3⟩ | ⟨hn2, _⟩
    · refine .inr ⟨hn, ?_, e2, e3⟩
      unfold lstE valE
      rw [e1]
    · exact absurd rfl hn2
theorem one_six {s : ByteArray} {sub : Option (Nat → JR (JV × Nat))} {t : Nat} {ds : List Cel} {w' : World} {o : ByteArray} {r : Int} {t1 er1 ea1 t2 er2 ea2 t3 er3 ea3 : Nat} {ds2 : List Cel} {B : Nat → Prop} (HF : Fwd s (bareE s sub)) (ht : t ≤ s.size) (hd : ds.length ≤ t) (h1 : TextQ s (bl s t) 0 0 o t1 er1 ea1) (h2 : WantQ s [58] (if er1 = 0 then bl s t1 else t1) er1 ea1 t2 er2 ea2) (h3 : ValQ s sub t2 er2 ea2 ds w' r t3 er3 ea3 ds2 B) : OneQ s (oneE s 6 (valE s sub)) t ds w' o r t3 er3 ea3 ds2 B := by
  have b1 := bl_ge s t
  have b2 := bl_le s t ht
  have e6 : oneE s 6 (valE s sub) = keyE s (valE s sub) := if_pos rfl
  rw [e6]
  unfold ValQ at h3
  rcases h1 with ⟨_, ⟨l, q1, rfl⟩, rfl, rfl⟩ | ⟨_, q1, rfl, q2⟩ | ⟨hh, _⟩
  · have f1 := quot_fwd b2 q1
    have b3 := bl_ge s t1
    have b4 := bl_le s t1 f1.2
    rw [if_pos rfl] at h2
    rcases h2 with ⟨_, q2, rfl, rfl⟩ | ⟨_, q2, rfl, rfl⟩ | ⟨hh, _⟩
    · have f2 := need_ok s [58] _ t2 b4 q2
      have b5 := bl_ge s t2
      have b6 := bl_le s t2 f2.2
      rcases h3 with ⟨_, rfl, rfl, x, p, es, e1, e2, e3, e4, e5⟩ | ⟨hn, h⟩
      · have g := HF _ x t3 b6 e1
        refine .inl ⟨rfl, rfl, g.2, x, p, es, ?_, e2, e3, e4, by omega⟩
        unfold keyE valE
        simp only [q1, q2, e1]
      · rcases h with ⟨_, e1, e2, e3⟩ | ⟨hn2, _⟩
        · refine .inr ⟨hn, ?_, e2, e3⟩
          unfold keyE valE
          simp only [q1, q2, e1]
        · exact absurd rfl hn2
    · have g := need_at s [58] _ _ q2 b4
      rcases h3 with ⟨hh, _⟩ | ⟨hn, h⟩
      · cases hh
      · rcases h with ⟨hh, _⟩ | ⟨_, rfl, rfl, rfl, rfl⟩
        · cases hh
        · refine .inr ⟨by decide, ?_, by omega, by omega⟩
          unfold keyE
          simp only [q1, q2]
    · exact absurd rfl hh
  · rcases h2 with ⟨hh, _⟩ | ⟨hh, _⟩ | ⟨_, e1, rfl, rfl⟩
    · cases hh
    · cases hh
    · rw [if_neg (by decide)] at e1
      subst e1
      rcases h3 with ⟨hh, _⟩ | ⟨hn, h⟩
      · cases hh
      · rcases h with ⟨hh, _⟩ | ⟨_, rfl, rfl, rfl, rfl⟩
        · cases hh
        · refine .inr ⟨by decide, ?_, q2, by omega⟩
          unfold keyE
          simp only [q1]
  · exact absurd rfl hh
theorem ky_one (kd : Int) (o : ByteArray) (x : JV) : kyL kd [(o, x)] = if kd = 6 then [o] else [] := by
  unfold kyL
  split <;> rfl
theorem DT.wider {w : World} {B B' : Nat → Prop} {ds : List Cel} {p : Nat} {x : JV} (h : DT w B ds p x) (hS : ∀ g, B g → B' g) : DT w B' ds p x := by
  have := h.more hS []
  rwa [List.append_nil] at this
/-- Where a round begins. -/
def LoopP (s : ByteArray) (cl kd : Int) (one : Nat → JR (ByteArray × JV × Nat)) (X : JR (List (ByteArray × JV) × Nat)) (t0 : Nat) (ds0 : List Cel) (wq : World) (B : Nat → Prop) (t er ea : Nat) (ds : List Cel) (ks : List ByteArray) (is : List Int) : Prop :=
  (er = 0 ∧ ea = 0 ∧ t ≤ s.size ∧ ∃ es dn g, ds = ds0 ++ es ∧ es.length + t0 ≤ t ∧ ks = kyL kd dn ∧ Tr wq B ds is (dn.map Prod.snd) ∧ s.size < t + g ∧ pre dn (kdF s cl one g t) = X) ∨ (er ≠ 0 ∧ X = .error (er, ea) ∧ t ≤ s.size + 1 ∧ ds.length ≤ s.size + 1)
/-- What is told where the brackets end. -/
def EndP (s : ByteArray) (kd : Int) (X : JR (List (ByteArray × JV) × Nat)) (t0 : Nat) (ds0 : List Cel) (wq : World) (B : Nat → Prop) (t : Nat) (ds : List Cel) (ks : List ByteArray) (is : List Int) : Prop :=
  ∃ es dn, ds = ds0 ++ es ∧ es.length + t0 ≤ t ∧ ks = kyL kd dn ∧ Tr wq B ds is (dn.map Prod.snd) ∧ X = .ok (dn, t + 1) ∧ t < s.size
section
variable {s : ByteArray} {cl kd : Int} {one : Nat → JR (ByteArray × JV × Nat)} {X : JR (List (ByteArray × JV) × Nat)} {t0 : Nat} {ds0 : List Cel} {wq : World} {B B2 : Nat → Prop} {t ea : Nat} {ds : List Cel} {ks ks2 : List ByteArray} {is : List Int} {o : ByteArray} {r : Int} {t2 er2 ea2 t3 er3 ea3 : Nat} {ds2 : List Cel}
theorem LoopP.kept {er : Nat} {w' : World} {S : Nat → Prop} (h : LoopP s cl kd one X t0 ds0 wq B t er ea ds ks is) (tc : Touch S wq w') (hS : ∀ g, B g → ¬ S g) : LoopP s cl kd one X t0 ds0 w' B t er ea ds ks is := by
  rcases h with ⟨h1, h2, h3, es, dn, g, h4, h5, h6, h7, h8⟩ | h
  · exact .inl ⟨h1, h2, h3, es, dn, g, h4, h5, h6, h7.kept tc hS, h8⟩
  · exact .inr h
theorem OneQ.kept {w' : World} {S : Nat → Prop} (h : OneQ s one t ds wq o r t2 er2 ea2 ds2 B) (tc : Touch S wq w') (hS : ∀ g, B g → ¬ S g) : OneQ s one t ds w' o r t2 er2 ea2 ds2 B := by
  rcases h with ⟨h1, h2, h3, x, p, es, h4, h5, h6, h7, h8⟩ | h
  · exact .inl ⟨h1, h2, h3, x, p, es, h4, h5, h6, h7.kept tc hS, h8⟩
  · exact .inr h
theorem EndP.kept {w' : World} {S : Nat → Prop} (h : EndP s kd X t0 ds0 wq B t ds ks is) (tc : Touch S wq w') (hS : ∀ g, B g → ¬ S g) : EndP s kd X t0 ds0 w' B t ds ks is := by
  obtain ⟨es, dn, h1, h2, h3, h4, h5⟩ := h
  exact ⟨es, dn, h1, h2, h3, h4.kept tc hS, h5⟩
theorem EndP.lt (h : EndP s kd X t0 ds0 wq B t ds ks is) : t < s.size := by
  obtain ⟨es, dn, h1, h2, h3, h4, h5, h6⟩ := h
  exact h6
theorem EndP.dsl (h : EndP s kd X t0 ds0 wq B t ds ks is) (hd0 : ds0.length ≤ t0) (hs : s.size ≤ 1048576) : ds.length ≤ 1048580 := by
  obtain ⟨es, dn, h1, h2, h3, h4, h5, h6⟩ := h
  rw [h1, List.length_append]
  omega
theorem LoopP.good (h : LoopP s cl kd one X t0 ds0 wq B t 0 ea ds ks is) (hd0 : ds0.length ≤ t0) : ea = 0 ∧ t ≤ s.size ∧ ds.length ≤ t := by
  rcases h with ⟨_, h2, h3, es, dn, g, h4, h5, _⟩ | ⟨hh, _⟩
  · exact ⟨h2, h3, by rw [h4, List.length_append]; omega⟩
  · exact absurd rfl hh
theorem LoopP.next (hd0 : ds0.length ≤ t0) (h : LoopP s cl kd one X t0 ds0 wq B t 0 ea ds ks is) (h1 : OneQ s one t ds wq o r t2 er2 ea2 ds2 B2) (hk : ks2 = ks ++ (if kd = 6 then [o] else [])) (hne : (if er2 = 0 then lk s (bl s t2) else -1) ≠ cl) (hw : WantQ s [44] (if er2 = 0 then bl s t2 else t2) er2 ea2 t3 er3 ea3) :
    LoopP s cl kd one X t0 ds0 wq (fun g => B g ∨ B2 g) t3 er3 ea3 ds2 ks2 (is ++ [r]) ∧ (er3 = 0 → t + 1 ≤ t3) := by
  rcases h with ⟨_, rfl, ht, es, dn, g, e1, e2, e3, e4, e5, e6⟩ | ⟨hh, _⟩
  · obtain ⟨g, rfl⟩ : ∃ g', g = g' + 1 := ⟨g - 1, by omega⟩
    rw [kdF] at e6
    rcases h1 with ⟨rfl, rfl, q1, x, p, es2, q2, q3, q4, q5, q6⟩ | ⟨hn, q2, q3, q4⟩
    · rw [if_pos rfl] at hne hw
      have b3 := bl_ge s t2
      have b4 := bl_le s t2 q1
      rw [q2] at e6
      simp only at e6
      rw [if_neg hne] at e6
      rcases hw with ⟨_, m1, rfl, rfl⟩ | ⟨_, m1, rfl, rfl⟩ | ⟨hh, _⟩
      · rw [need_one] at m1
        split at m1
        · rename_i m2
          cases m1
          have hlt := (lk_is (c := 44) m2).1
          have m2' : lk s (bl s t2) = 44 := m2
          rw [if_pos m2', pre_pre] at e6
          refine ⟨.inl ⟨rfl, rfl, hlt, es ++ es2, dn ++ [(o, x)], g, by rw [q3, e1, List.append_assoc], by rw [List.length_append]; omega, ?_, ?_, by omega, e6⟩, fun _ => by omega⟩
          · rw [hk, e3, kyL_more, ky_one]
          · rw [List.map_append]
            subst q4
            refine Tr.push ?_ (q5.wider (fun g e => .inr e))
            rw [q3]
            exact e4.more (fun g e => .inl e) es2
        · cases m1
      · rw [need_one] at m1
        split at m1
        · cases m1
        · rename_i m2
          cases m1
          have m2' : ¬ lk s (bl s t2) = 44 := m2
          rw [if_neg m2'] at e6
          refine ⟨.inr ⟨by decide, e6.symm, by omega, ?_⟩, fun h => by cases h⟩
          rw [q3, List.length_append]
          have hds : ds.length ≤ t := by rw [e1, List.length_append]; omega
          omega
      · exact absurd rfl hh
    · rw [q2] at e6
      rcases hw with ⟨hh, _⟩ | ⟨hh, _⟩ | ⟨_, m1, rfl, rfl⟩
      · exact absurd hh hn
      · exact absurd hh hn
      · rw [if_neg hn] at m1
        subst m1
        exact ⟨.inr ⟨hn, e6.symm, q3, q4⟩, fun h => absurd h hn⟩
  · exact absurd rfl hh
theorem LoopP.fin (h : LoopP s cl kd one X t0 ds0 wq B t 0 ea ds ks is) (h1 : OneQ s one t ds wq o r t2 er2 ea2 ds2 B2) (hk : ks2 = ks ++ (if kd = 6 then [o] else [])) (hcl : 0 ≤ cl) (hne : (if er2 = 0 then lk s (bl s t2) else -1) = cl) :
    er2 = 0 ∧ ea2 = 0 ∧ t2 ≤ s.size ∧ EndP s kd X t0 ds0 wq (fun g => B g ∨ B2 g) (bl s t2) ds2 ks2 (is ++ [r]) := by
  rcases h with ⟨_, rfl, ht, es, dn, g, e1, e2, e3, e4, e5, e6⟩ | ⟨hh, _⟩
  · obtain ⟨g, rfl⟩ : ∃ g', g = g' + 1 := ⟨g - 1, by omega⟩
    rw [kdF] at e6
    rcases h1 with ⟨rfl, rfl, q1, x, p, es2, q2, q3, q4, q5, q6⟩ | ⟨hn, q2, q3, q4⟩
    · rw [if_pos rfl] at hne
      have b3 := bl_ge s t2
      have b4 := bl_le s t2 q1
      rw [q2] at e6
      simp only at e6
      rw [if_pos hne] at e6
      have hlt : bl s t2 < s.size := lk_in2 (by rw [hne]; omega)
      refine ⟨rfl, rfl, q1, es ++ es2, dn ++ [(o, x)], by rw [q3, e1, List.append_assoc], by rw [List.length_append]; omega, ?_, ?_, e6.symm, hlt⟩
      · rw [hk, e3, kyL_more, ky_one]
      · rw [List.map_append]
        subst q4
        refine Tr.push ?_ (q5.wider (fun g e => .inr e))
        rw [q3]
        exact e4.more (fun g e => .inl e) es2
    · rw [if_neg hn] at hne
      omega
  · exact absurd rfl hh
end
end Go.Proofs.YtjpmjcadnnglnaaDoor
