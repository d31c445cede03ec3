/- Texts of this proof, one behind the other: what each says stands ahead of it. -/
import Derived.Test.YtdhhcefmmojcmaaGreatDoorM14
import Derived.Laws.Tables
/- A parser of patterns: trees in memory; conditions: as told. -/
namespace Go.Proofs.YtdhhcefmmojcmaaGreatDoor
open Go.RowKit
open Go.Lib

/-- The nine cells of a node. -/
structure Cel where
  kind : Int
  sa : Option Addr
  sn : Nat
  sc : Nat
  fold : Bool
  min : Int
  max : Int
  lazy : Bool
  cap : Int
  name : ByteArray
  ka : Option Addr
  kn : Nat
  kc : Nat
def Cel.arr (c : Cel) : Array Value := #[.int .i64 c.kind, .slice c.sa c.sn c.sc, .bool c.fold, .int .i64 c.min, .int .i64 c.max, .bool c.lazy, .int .i64 c.cap, .string c.name, .slice c.ka c.kn c.kc]
def Cel.list (c : Cel) : List Value := [.int .i64 c.kind, .slice c.sa c.sn c.sc, .bool c.fold, .int .i64 c.min, .int .i64 c.max, .bool c.lazy, .int .i64 c.cap, .string c.name, .slice c.ka c.kn c.kc]
theorem Cel.arr_list (c : Cel) : c.arr.toList = c.list := rfl
theorem Cel.one (c : Cel) : c.arr.all (·.oneCell') = true := by simp [Cel.arr, Value.oneCell']
def Cel.zero : Cel := ⟨0, none, 0, 0, false, 0, 0, false, 0, ⟨#[]⟩, none, 0, 0⟩
theorem cel_len (cs : List Cel) : (cs.flatMap Cel.list).length = cs.length * 9 := by
  induction cs with
  | nil => rfl
  | cons a l ih => rw [List.flatMap_cons, List.length_append, ih, List.length_cons]; show 9 + _ = _; omega
def CL (w : World) (v : Value) (cs : List Cel) : Prop := w.ownsRow 0 28 9 v cs.length (cs.flatMap Cel.list)
def SR (w : World) (v : Value) (s : List R2) : Prop := w.ownsRow 0 60 2 v s.length (flatR s)
/-- A tree lies in memory, in these blocks. -/
inductive TN (w : World) (B : Nat → Prop) : Cel → Nd → Prop
  | mk (c : Cel) (set : List R2) (kids : List Nd) (cs : List Cel) (hs : SR w (.slice c.sa c.sn c.sc) set) (bs : ∀ g, (Value.slice c.sa c.sn c.sc).ownBlock = some g → B g) (hk : CL w (.slice c.ka c.kn c.kc) cs) (bk : ∀ g, (Value.slice c.ka c.kn c.kc).ownBlock = some g → B g)
    (hl : cs.length = kids.length) (ht : ∀ (i : Nat) (c : Cel) (x : Nd), cs[i]? = some c → kids[i]? = some x → TN w B c x) : TN w B c (.mk c.kind c.min c.max c.cap c.fold c.lazy set c.name kids)
/-- What lies in a block is neither ranges nor nodes. -/
def NT (w : World) (g : Nat) : Prop := ∀ cs t fr, w.heap[g]? = some (.cells cs t fr) → t ≠ 60 ∧ t ≠ 28
theorem TN.kept {w w' : World} {B S : Nat → Prop} {c : Cel} {x : Nd} (h : TN w B c x) (tc : Touch S w w') (hS : ∀ g, B g → S g → NT w g) : TN w' B c x := by
  induction h with
  | mk c set kids cs hs bs hk bk hl ht ih =>
    refine .mk c set kids cs (rowKept hs tc (fun g e s => ?_)) bs (rowKept hk tc (fun g e s => ?_)) bk hl ih
    · obtain ⟨cs, fr, hh⟩ := own_type hs g e
      exact (hS g (bs g e) s _ _ _ hh).1 rfl
    · obtain ⟨cs, fr, hh⟩ := own_type hk g e
      exact (hS g (bk g e) s _ _ _ hh).2 rfl
theorem TN.more {w : World} {B B' : Nat → Prop} {c : Cel} {x : Nd} (h : TN w B c x) (hS : ∀ g, B g → B' g) : TN w B' c x := by
  induction h with
  | mk c set kids cs hs bs hk bk hl ht ih => exact .mk c set kids cs hs (fun g e => hS g (bs g e)) hk (fun g e => hS g (bk g e)) hl ih
theorem TN.new {w w' : World} {B : Nat → Prop} {c : Cel} {x : Nd} (h : TN w B c x) (tc : Touch (fun _ => False) w w') : TN w' B c x := h.kept tc (fun _ _ e => e.elim)
theorem sr_nil (w : World) : SR w (.slice none 0 0) [] := World.ownsRow_nil _ _ _ _
theorem cl_nil (w : World) : CL w (.slice none 0 0) [] := World.ownsRow_nil _ _ _ _
theorem TN.leaf (w : World) (B : Nat → Prop) (kind : Int) : TN w B ⟨kind, none, 0, 0, false, 0, 0, false, 0, ⟨#[]⟩, none, 0, 0⟩ (.border kind) :=
  TN.mk ⟨kind, none, 0, 0, false, 0, 0, false, 0, ⟨#[]⟩, none, 0, 0⟩ [] [] [] (sr_nil w) (fun g e => by cases e) (cl_nil w) (fun g e => by cases e) rfl (fun i c x e => by cases e)

theorem PS.far {w w' : World} {b : Nat} {X : Px} {k : Nat} {f : Fl} {vn : Value} {ns : List ByteArray} {op : Nat} {S : Nat → Prop} (h : PS w b X k f vn ns op) (t : Touch S w w') (hS : ∀ g, S g → b < g ∧ ∀ cs fr, w.heap[g]? ≠ some (.cells cs 9 fr)) : PS w' b X k f vn ns op :=
  ⟨(t.block b h.lt (fun e => by have := (hS _ e).1; omega)).trans h.cells, h.runes.kept t (fun g o e x => by have := h.oldR g o e; have := (hS _ x).1; omega) (fun g o hl e => io_lt (by rw [← e]; exact h.runes) hl),
    h.places.kept t (fun g o e x => by have := h.oldP g o e; have := (hS _ x).1; omega) (fun g o hl e => io_lt (by rw [← e]; exact h.places) hl),
    rowKept h.names t (fun g e x => by obtain ⟨cs, fr, hh⟩ := own_type h.names g e; exact (hS g x).2 _ _ hh), h.oldR, h.oldP, h.env.kept t (fun g e => by have := (hS g e).1; have := h.low; omega), h.low, h.lowN, h.apN⟩
theorem PS.nt {w : World} {b : Nat} {X : Px} {k : Nat} {f : Fl} {vn : Value} {ns : List ByteArray} {op : Nat} (h : PS w b X k f vn ns op) {g : Nat} (hg : g = b ∨ vn.ownBlock = some g) : NT w g := by
  intro cs t fr e
  rcases hg with rfl | hg
  · rw [h.cells] at e
    cases e
    decide
  · obtain ⟨cs2, fr2, hh⟩ := own_type h.names g hg
    rw [hh] at e
    cases e
    decide
theorem touch_row (w : World) (q : Nat) (cs : Array Value) : Touch (fun g => g = q) w (w.setRow q cs) :=
  ⟨rfl, rfl, rfl, by simp, fun k _ hk => setRow_other w q k cs hk⟩
theorem info28 : (Tryz.prog.info? 28).map (·.size) = some 9 := by kernel_rfl
end Go.Proofs.YtdhhcefmmojcmaaGreatDoor

/- A parser of patterns: bounds, class, quantifier; conditions: as told. -/
namespace Go.Proofs.YtdhhcefmmojcmaaGreatDoor
open Go.RowKit
open Go.Lib

theorem take_y {b : Nat} {X : Px} {k : Nat} {f : Fl} {vn : Value} {ns : List ByteArray} {op : Nat} {w : World} (h : PS w b X k f vn ns op) (hk : k ≤ 2000) (x : Int) (hx : lkR X.R k = x) (hn : x ≠ -1) :
    Calls Tryz.prog 108 #[.pointer (some ⟨b, 0, none⟩)] w fun e w' => e = .returned (.int .i64 x) ∧ PS w' b X (k + 1) f vn ns op ∧ Touch (fun g => g = b) w w' := by
  have h1 := take_any b X k f vn ns op w h (by omega)
  rw [if_neg (by rw [hx]; exact hn), hx] at h1
  exact h1
theorem take_n {b : Nat} {X : Px} {k : Nat} {f : Fl} {vn : Value} {ns : List ByteArray} {op : Nat} {w : World} (h : PS w b X k f vn ns op) (hk : k ≤ 2000) (hx : lkR X.R k = -1) :
    Calls Tryz.prog 108 #[.pointer (some ⟨b, 0, none⟩)] w fun e w' => e = .returned (.int .i64 (-1)) ∧ PS w' b X k f vn ns op ∧ Touch (fun g => g = b) w w' := by
  have h1 := take_any b X k f vn ns op w h (by omega)
  rw [if_pos hx, hx] at h1
  exact h1
theorem take_z {b : Nat} {X : Px} {k : Nat} {f : Fl} {vn : Value} {ns : List ByteArray} {op : Nat} {w : World} (h : PS w b X k f vn ns op) (hk : k ≤ 2000) :
    Calls Tryz.prog 108 #[.pointer (some ⟨b, 0, none⟩)] w fun e w' => e = .returned (.int .i64 (lkR X.R k)) ∧ (∃ k', PS w' b X k' f vn ns op) ∧ Touch (fun g => g = b) w w' :=
  (take_any b X k f vn ns op w h (by omega)).mono (fun e w' h => ⟨h.1, ⟨_, h.2.1⟩, h.2.2⟩)
set_option maxRecDepth 100000 in
set_option maxHeartbeats 8000000 in
theorem bounds_any (b : Nat) (X : Px) (k : Nat) (f : Fl) (vn : Value) (ns : List ByteArray) (op : Nat) (w : World) (h : PS w b X k f vn ns op) (hX : X.Good) (hk : k ≤ X.R.length) :
    Calls Tryz.prog 107 #[.pointer (some ⟨b, 0, none⟩)] w fun e w' => BndP b X f vn ns op w (boundF X.R k) e w' := by
  have HX := hid hX
  have hk2 : k ≤ 1024 := by have := hX.lenR; omega
  obtain ⟨A, hA⟩ : ∃ A, A = boundF X.R k := ⟨_, rfl⟩
  have HA := hid hA.symm
  rw [← hA]
  clear hA hk
  unfold boundF at HA
  have HK := hid h
  have TK := hid (Touch.refl (fun g => g = b) w)
  clear h
  by_cases h42 : lkR X.R k = 42
  · rw [if_pos h42] at HA
    go_enter Tryz.func107, Tryz.ntmps107
    go_wp2_with fail
    refine (take_y HK.out (by omega) 42 h42 (by decide)).mono ?_
    rintro e ws1 ⟨rfl, hp, tt⟩
    replace HK := hid hp
    replace TK := hid (TK.out.trans tt (fun _ _ e => e))
    clear hp tt
    clear h42
    go_wp2
    refine bodyPost_ret (results_tmp3 rfl _ _ _) rfl ?_
    rw [← HA.out]
    exact ⟨rfl, HK.out, TK.out⟩
  rw [if_neg h42] at HA
  by_cases h43 : lkR X.R k = 43
  · rw [if_pos h43] at HA
    go_enter Tryz.func107, Tryz.ntmps107
    go_wp2_with fail
    refine (take_y HK.out (by omega) 43 h43 (by decide)).mono ?_
    rintro e ws1 ⟨rfl, hp, tt⟩
    replace HK := hid hp
    replace TK := hid (TK.out.trans tt (fun _ _ e => e))
    clear hp tt
    clear h43
    go_wp2
    refine bodyPost_ret (results_tmp3 rfl _ _ _) rfl ?_
    rw [← HA.out]
    exact ⟨rfl, HK.out, TK.out⟩
  rw [if_neg h43] at HA
  by_cases h63 : lkR X.R k = 63
  · rw [if_pos h63] at HA
    go_enter Tryz.func107, Tryz.ntmps107
    go_wp2_with fail
    refine (take_y HK.out (by omega) 63 h63 (by decide)).mono ?_
    rintro e ws1 ⟨rfl, hp, tt⟩
    replace HK := hid hp
    replace TK := hid (TK.out.trans tt (fun _ _ e => e))
    clear hp tt
    clear h63
    go_wp2
    refine bodyPost_ret (results_tmp3 rfl _ _ _) rfl ?_
    rw [← HA.out]
    exact ⟨rfl, HK.out, TK.out⟩
  rw [if_neg h63] at HA
  by_cases h123 : lkR X.R k = 123
  · rw [if_pos h123] at HA
    have hk3 : k + 1 ≤ X.R.length := lk_is h123 (by decide)
    have KN := hid (fun w' hp => numbers_any b X (k + 1) f vn ns op w' hp HX.out hk3)
    clear hk3
    generalize numsF X.R (k + 1) = N at *
    go_enter Tryz.func107, Tryz.ntmps107
    go_wp2_with fail
    refine (take_y HK.out (by omega) 123 h123 (by decide)).mono ?_
    rintro e ws1 ⟨rfl, hp, tt⟩
    replace HK := hid hp
    replace TK := hid (TK.out.trans tt (fun _ _ e => e))
    clear hp tt
    clear h123 h42 h43 h63
    match N with
    | none =>
      go_wp2_with fail
      refine (KN.out _ HK.out).mono ?_
      rintro e w2 ⟨x, y, k1, rfl, hp, tt⟩
      have H2 := hid hp
      have T2 := hid (TK.out.trans tt (fun _ _ e => e))
      clear hp tt KN
      go_wp2
      refine bodyPost_ret (results_tmp3 rfl _ _ _) rfl ?_
      rw [← HA.out]
      exact ⟨_, _, _, rfl, H2.out, T2.out⟩
    | some (x, y, k1) =>
      go_wp2_with fail
      refine (KN.out _ HK.out).mono ?_
      rintro e w2 ⟨rfl, hp, tt⟩
      have H2 := hid hp
      have T2 := hid (TK.out.trans tt (fun _ _ e => e))
      clear hp tt KN
      go_wp2
      refine bodyPost_ret (results_tmp3 rfl _ _ _) rfl ?_
      rw [← HA.out]
      exact ⟨rfl, H2.out, T2.out⟩
  rw [if_neg h123] at HA
  have KZ := hid (take_z HK.out (show k ≤ 2000 by omega))
  generalize lkR X.R k = x at *
  have b1 : (x == 42) = false := beq_eq_false_iff_ne.2 h42
  have b2 : (x == 43) = false := beq_eq_false_iff_ne.2 h43
  have b3 : (x == 63) = false := beq_eq_false_iff_ne.2 h63
  have b4 : (x == 123) = false := beq_eq_false_iff_ne.2 h123
  go_enter Tryz.func107, Tryz.ntmps107
  go_wp2_with fail
  refine KZ.out.mono ?_
  rintro e w2 ⟨rfl, ⟨k1, hp⟩, tt⟩
  have H2 := hid hp
  have T2 := hid (TK.out.trans tt (fun _ _ e => e))
  clear hp tt KZ
  go_wp2
  refine bodyPost_ret (results_tmp3 rfl _ _ _) rfl ?_
  rw [← HA.out]
  exact ⟨_, _, _, rfl, H2.out, T2.out⟩

/-- A set that a node is made of. -/
def clsC (f : Bool) (a : Option Addr) (n c : Nat) : Cel := ⟨1, a, n, c, f, 0, 0, false, 0, ⟨#[]⟩, none, 0, 0⟩
set_option maxRecDepth 100000 in
set_option maxHeartbeats 8000000 in
theorem ndclass_any (b : Nat) (X : Px) (k : Nat) (f : Fl) (vn : Value) (ns : List ByteArray) (op : Nat) (a : Option Addr) (n c : Nat) (w : World) (h : PS w b X k f vn ns op) :
    Calls Tryz.prog 110 #[.pointer (some ⟨b, 0, none⟩), .slice a n c] w fun e w' => e = .returned (.agg (clsC f.i a n c).arr) ∧ Touch (fun _ => False) w w' := by
  have TA := hid ((Touch.refl (fun _ => False) w).alloc (.cells Cel.zero.arr 28))
  have QB := hid (block_new w Cel.zero.arr 28)
  have HP := hid (h.new TA.out)
  clear h
  obtain ⟨fi, hfi⟩ : ∃ fi, fi = f.i := ⟨_, rfl⟩
  rw [← hfi]
  go_enter Tryz.func110, Tryz.ntmps110
  go_upto_region 1 with fail
  unfold Cel.zero Cel.arr at TA QB HP
  generalize w.alloc (.cells _ 28) = w1 at *
  have c6 := HP.out.c6
  rw [← hfi] at c6
  obtain ⟨q, hq⟩ : ∃ q, q = w.heap.size := ⟨_, rfl⟩
  have HQ := hid (show w.heap.size ≤ q by omega)
  rw [← hq] at QB ⊢
  clear hq hfi
  go_wp2_with (first | refine wpList_store_row rfl 28 _ _ rfl q _ rfl rfl 28 _ QB.out info28 (by rfl) (Cel.one (clsC fi a n c)) ?_ | fail)
  refine bodyPost_ret (results_c rfl _ _ q 28 _ (0, 0) _ rfl (setRow_heap _ q _ _ 28 (0, 0) QB.out) Tryz.underlying28 rfl (by kernel_rfl)) rfl ?_
  exact ⟨rfl, TA.out.trans (touch_row _ _ _) (fun i hi e => by have := HQ.out; omega)⟩
end Go.Proofs.YtdhhcefmmojcmaaGreatDoor
