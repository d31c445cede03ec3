/- Texts of this proof, one behind the other: what each says stands ahead of it. -/
import Derived.Test.YthengfclijclmaaM22
import Derived.Test.YthengfclijclmaaM7
import Derived.Maps.AppendAt
import Derived.Maps.Own
import Derived.Maps.OwnOps
import Derived.Maps.Views
/- Symbols written by their codes: the bits, and what is read of them; no condition. -/
namespace Go.Proofs.Ythengfclijclmaa
open Go.RowKit

def codeBits (c n : Nat) : List Bool := (List.range n).map fun i => ibit (c : Int) (n - 1 - i)
def bitsOf (f code : Nat → Nat) (ks : List Nat) : List Bool := ks.flatMap fun k => codeBits (code k) (f k)

theorem ibit_nat (c j : Nat) : (ibit (c : Int) j).toNat = c / 2 ^ j % 2 := by
  unfold ibit
  have e : (c : Int) / 2 ^ j % 2 = ((c / 2 ^ j % 2 : Nat) : Int) := by simp
  rw [e]
  have := Nat.mod_lt (c / 2 ^ j) (show 2 > 0 by decide)
  generalize c / 2 ^ j % 2 = x at *
  have : x = 0 ∨ x = 1 := by omega
  rcases this with rfl | rfl <;> rfl

theorem val_code (c : Nat) : ∀ n, Bt.val (codeBits c n) = rev c n
  | 0 => rfl
  | n + 1 => by
    have ih := val_code c n
    unfold codeBits at ih ⊢
    rw [List.range_succ_eq_map, List.map_cons, List.map_map, Bt.val, rev, ibit_nat]
    have e : (List.range n).map ((fun i => ibit (c : Int) (n + 1 - 1 - i)) ∘ Nat.succ) = (List.range n).map fun i => ibit (c : Int) (n - 1 - i) := by
      apply List.map_congr_left
      intro i _
      show ibit (c : Int) (n + 1 - 1 - (i + 1)) = _
      congr 1
      omega
    rw [e, ih]
    simp
    omega

theorem length_codeBits (c n : Nat) : (codeBits c n).length = n := by simp [codeBits]

theorem bitsOf_append (f code : Nat → Nat) (l r : List Nat) : bitsOf f code (l ++ r) = bitsOf f code l ++ bitsOf f code r := by simp [bitsOf]
theorem bitsOf_one (f code : Nat → Nat) (k : Nat) : bitsOf f code [k] = codeBits (code k) (f k) := by simp [bitsOf]
theorem bitsOf_cons (f code : Nat → Nat) (k : Nat) (l : List Nat) : bitsOf f code (k :: l) = codeBits (code k) (f k) ++ bitsOf f code l := by simp [bitsOf]

theorem length_bitsOf (f code : Nat → Nat) (hf : ∀ i, f i ≤ 15) : ∀ l, (bitsOf f code l).length ≤ 15 * l.length
  | [] => by simp [bitsOf]
  | k :: l => by
    have := length_bitsOf f code hf l
    have := hf k
    rw [bitsOf_cons, List.length_append, length_codeBits, List.length_cons]
    omega

/-- What is read at the place of a symbol is its path. -/
theorem read_code (f code : Nat → Nat) (pre post : List Nat) (k : Nat) :
    Bt.rval (strOf (Bt.pack (bitsOf f code (pre ++ k :: post)))) (bitsOf f code pre).length (f k) = rev (code k) (f k) ∧
    (bitsOf f code pre).length + f k ≤ (bitsOf f code (pre ++ k :: post)).length := by
  have e : bitsOf f code (pre ++ k :: post) = bitsOf f code pre ++ (codeBits (code k) (f k) ++ bitsOf f code post) := by rw [bitsOf_append, bitsOf_cons]
  have hl : (bitsOf f code pre).length + f k ≤ (bitsOf f code (pre ++ k :: post)).length := by
    rw [e, List.length_append, List.length_append, length_codeBits]
    omega
  refine ⟨?_, hl⟩
  rw [Bt.rval_pack _ _ _ hl, e, List.drop_left, ← val_code]
  congr 1
  exact List.take_left' (length_codeBits (code k) (f k))

theorem bits_bytes (bs : List Bool) : 8 * (strOf (Bt.pack bs)).size = 8 * ((bs.length + 7) / 8) := by rw [size_strOf, Bt.length_pack]

/-- The writer's blocks aren't a list of numbers. -/
theorem fp_ints {w : World} {wb base n g : Nat} {bs : List Bool} {v : Value} {xs : List Value} (hw : Wr w wb bs) (ho : w.ownsRow base 3 1 v n xs) (hg : v.ownBlock = some g) : ¬ Fp w wb g := by
  rcases ho.2 with ⟨rfl, _⟩ | ⟨g', cap, cur, rfl, _, hh, _⟩
  · simp [Value.ownBlock] at hg
  · simp [Value.ownBlock] at hg
    subst hg
    obtain ⟨v0, hb, hown⟩ := hw
    rintro (rfl | ⟨v', c, hb', ho'⟩)
    · rw [hb] at hh
      simp at hh
    · rw [hb] at hb'
      simp at hb'
      obtain ⟨rfl, _⟩ := hb'
      rcases hown.2 with ⟨rfl, _⟩ | ⟨g2, cap2, cur2, rfl, _, hh2, _⟩
      · simp [Value.ownBlock] at ho'
      · simp [Value.ownBlock] at ho'
        subst ho'
        rw [hh] at hh2
        simp at hh2

theorem own_kept {w w' : World} {base n : Nat} {e : TypeId} {sz : Nat} {v : Value} {xs : List Value} (h : w.ownsRow base e sz v n xs) (hk : ∀ g, v.ownBlock = some g → w'.heap[g]? = w.heap[g]?) : w'.ownsRow base e sz v n xs := by
  refine ⟨h.1, ?_⟩
  rcases h.2 with h2 | ⟨g, cap, cur, hv, hg, hh, r⟩
  · exact .inl h2
  · exact .inr ⟨g, cap, cur, hv, hg, (hk g (by rw [hv]; rfl)).trans hh, r⟩

theorem ints_apart {w w' : World} {a : Option Addr} {len r : Nat} {f : Nat → Int} (h : Ints w a len f) (t : Touch (fun k => k = r) w w') (hs : ∀ b o, a = some ⟨b, o, none⟩ → 0 < len → b < r) : Ints w' a len f := by
  rcases Nat.eq_zero_or_pos len with h0 | h0
  · exact .inl h0
  · exact h.beside t (fun b o e _ hb => by have := hs b o e h0; omega)

theorem ints_below {w : World} {a : Option Addr} {len : Nat} {f : Nat → Int} (h : Ints w a len f) : ∀ b o, a = some ⟨b, o, none⟩ → 0 < len → b < w.heap.size := by
  intro b o e h0
  rcases h with h | ⟨b', o', e', hb', _⟩
  · omega
  · rw [e'] at e
    simp at e
    omega

/-- A writer, and the list of what was written. -/
structure Wk (W0 w : World) (wb : Nat) (bs : List Bool) (ks : List Nat) (v : Value) : Prop where
  wr : Wr w wb bs
  own : w.ownsRow W0.heap.size 3 1 v ks.length (natsV ks)
  touch : Touch (fun k => k = wb) W0 w
  fp : ∀ k, Fp w wb k → k = wb ∨ W0.heap.size ≤ k

theorem Wk.code {W0 w w1 : World} {wb : Nat} {bs bs' : List Bool} {ks : List Nat} {v : Value} (h : Wk W0 w wb bs ks v) (hs : WStep w w1 wb bs') : Wk W0 w1 wb bs' ks v := by
  refine ⟨hs.wr, own_kept h.own (fun g hg => hs.touch.block g (h.own.lt g hg).2 (fp_ints h.wr h.own hg)), h.touch.trans hs.touch (fun i hi e => ?_), fun k hk => ?_⟩
  · rcases h.fp i e with h | h
    · exact h
    · omega
  · rcases hs.fp k hk with h' | h'
    · exact h.fp k h'
    · exact .inr (Nat.le_trans h.touch.size h')

theorem Wk.still {W0 w w1 : World} {wb : Nat} {bs : List Bool} {ks : List Nat} {v : Value} (h : Wk W0 w wb bs ks v) (hs : Still w w1) : Wk W0 w1 wb bs ks v :=
  ⟨h.wr.kept (fun k _ => by rw [hs.heap]), own_kept h.own (fun g _ => by rw [hs.heap]), h.touch.trans (hs.touch (fun _ => False)) (fun _ _ e => e.elim), fun k hk => h.fp k (Fp.of_same (by rw [hs.heap]) hk)⟩

theorem Wk.put {W0 w : World} {wb : Nat} {f code : Nat → Nat} {ks : List Nat} {v : Value} (h : Wk W0 w wb (bitsOf f code ks) ks v) (k : Nat) (hlen : (bitsOf f code ks).length + f k < 1125899906842624) (hf : f k ≤ 32) :
    ∀ w', Still w w' → Calls Try.prog 77 #[.pointer (some ⟨wb, 0, none⟩), .int .i64 (code k : Nat), .int .i64 (f k : Nat)] w' fun e w1 => e = .returned (.tuple #[]) ∧ Wk W0 w1 wb (bitsOf f code (ks ++ [k])) ks v := by
  intro w' hs
  have h' := h.still hs
  refine (code_yes wb (bitsOf f code ks) (code k : Int) (f k) w' h'.wr hlen hf).mono ?_
  rintro e w1 ⟨rfl, hst⟩
  exact ⟨rfl, h'.code (by rw [bitsOf_append, bitsOf_one]; exact hst)⟩

theorem Wk.grow {W0 w w1 : World} {wb : Nat} {bs : List Bool} {ks : List Nat} {v v' : Value} {o : Obj} {x : Nat} (h : Wk W0 w wb bs ks v) (hg : (w.alloc o).grownBy w1 v.ownBlock) (hown : w1.ownsRow W0.heap.size 3 1 v' (ks.length + 1) (natsV ks ++ [.int .i64 (x : Nat)])) : Wk W0 w1 wb bs (ks ++ [x]) v' := by
  have hsame : ∀ k, Fp w wb k → w1.heap[k]? = w.heap[k]? := by
    intro k hk
    have hklt := h.wr.fp_lt hk
    rw [hg.block k (by simp; omega) (fun e => fp_ints h.wr h.own e.symm hk), Below.heap_alloc _ _ _ hklt]
  refine ⟨h.wr.kept hsame, ?_, ?_, fun k hk => h.fp k (Fp.of_same (hsame wb (.inl rfl)) hk)⟩
  · rw [List.length_append]
    have e : natsV (ks ++ [x]) = natsV ks ++ [.int .i64 (x : Nat)] := by simp [natsV]
    rw [e]
    exact hown
  · refine (h.touch.alloc o).grown hg (fun k hk hlt => ?_)
    have := (h.own.lt k hk).1
    omega

theorem rem_idx (x : Int) (len : Nat) (h1 : 1 ≤ len) (h2 : len ≤ 1024) : ∃ k : Nat, k < len ∧ (wrap64 (x.tmod (len : Int) + (len : Int))).tmod (len : Int) = (k : Int) := by
  have a1 := Int.tmod_lt_of_pos x (show (0 : Int) < (len : Int) by omega)
  have a2 := Int.lt_tmod_of_pos x (show (0 : Int) < (len : Int) by omega)
  have e : wrap64 (x.tmod (len : Int) + (len : Int)) = x.tmod (len : Int) + (len : Int) := by unfold wrap64; omega
  rw [e]
  have b1 := Int.tmod_lt_of_pos (x.tmod (len : Int) + (len : Int)) (show (0 : Int) < (len : Int) by omega)
  have b2 := Int.tmod_nonneg (len : Int) (show (0 : Int) ≤ x.tmod (len : Int) + (len : Int) by omega)
  refine ⟨((x.tmod (len : Int) + (len : Int)).tmod (len : Int)).toNat, by omega, by omega⟩

theorem one_num (w : World) (x : Int) : ∀ (j : Nat) (y : Value), [Value.int .i64 x][j]? = some y → (w.alloc (.cells #[.int .i64 x] 3)).cell? ((⟨w.heap.size, 0, none⟩ : Addr).add j) = some y := by
  intro j y hj
  match j, hj with
  | 0, hj => simp at hj; subst hj; simp [Addr.add]

theorem more_ks {len : Nat} {f : Nat → Nat} {ks : List Nat} {k : Nat} (h : ∀ k ∈ ks, k < len ∧ f k ≠ 0) (hk : k < len) (h0 : f k ≠ 0) : ∀ j ∈ ks ++ [k], j < len ∧ f j ≠ 0 := by
  intro j hj
  rcases List.mem_append.1 hj with h' | h'
  · exact h j h'
  · simp at h'
    subst h'
    exact ⟨hk, h0⟩

theorem natsV_range (ks : List Nat) : natsV ks = (List.range ks.length).map fun i => .int .i64 ((ks.getD i 0 : Nat) : Int) := by
  apply List.ext_getElem
  · simp [natsV]
  · intro i h1 h2
    simp [natsV] at h1 ⊢
    rw [List.getElem?_eq_getElem h1]
    rfl

theorem nums_own {w : World} {base : Nat} {v : Value} {ks : List Nat} (h : w.ownsRow base 3 1 v ks.length (natsV ks)) : ∃ a c, ∃ G : Nat → Nat, v = .slice a ks.length c ∧ Ints w a ks.length (fun i => ((G i : Nat) : Int)) ∧ ∀ i, i < ks.length → ks[i]? = some (G i) := by
  rw [natsV_range] at h
  obtain ⟨a, c, h1, h2⟩ := own_ints' h
  refine ⟨a, c, fun i => ks.getD i 0, h1, h2, fun i hi => ?_⟩
  show ks[i]? = some (ks.getD i 0)
  rw [List.getD_eq_getElem?_getD, List.getElem?_eq_getElem hi]
  rfl

theorem read_says {f : Nat → Nat} {len : Nat} (hf : ∀ i, f i ≤ 15) (he : errOf f len = 0) {s : ByteArray} {t r k : Nat} {w w' : World} {e : Ending} (h : Answer (Laid f len) f (pathOf f len) (Bt.rval s t (min 15 (8 * s.size - t))) s t r w e w')
    (hk : k < len) (h0 : f k ≠ 0) (hp : Bt.rval s t (f k) = pathOf f len k) (hfit : t + f k ≤ 8 * s.size) : e = .returned (.tuple #[.int .i64 (k : Nat), .int .i64 0]) ∧ RStep w w' r s (t + f k) := by
  have hk15 := hf k
  have hq : Bt.rval s t (min 15 (8 * s.size - t)) % 2 ^ f k = pathOf f len k := by rw [rval_upto s t _ _ (by omega), hp]
  have hs : Tb.Sym (Laid f len) f (pathOf f len) := sym_of f hf len (err_ok he).1
  rcases h with ⟨i, h1, h2, h3, h4, h5⟩ | ⟨i, h1, h2, h3, h4, h5⟩ | ⟨h1, h2, h3⟩
  · obtain rfl := fits_one hs h1 ⟨hk, h0⟩ h2 hq
    exact ⟨h4, h5⟩
  · obtain rfl := fits_one hs h1 ⟨hk, h0⟩ h2 hq
    omega
  · exact absurd hq (h1 k ⟨hk, h0⟩)

/-- Where the symbol number q begins. -/
def upTo (f code : Nat → Nat) (ks : List Nat) (q : Nat) : Nat := (bitsOf f code (ks.take q)).length

theorem upTo_step {f code : Nat → Nat} {ks : List Nat} {q k : Nat} (h : ks[q]? = some k) : upTo f code ks (q + 1) = upTo f code ks q + f k := by
  unfold upTo
  have hq := (List.getElem?_eq_some_iff.1 h)
  rw [List.take_succ_eq_append_getElem hq.1, hq.2, bitsOf_append, bitsOf_one, List.length_append, length_codeBits]

theorem upTo_all (f code : Nat → Nat) (ks : List Nat) : upTo f code ks ks.length = (bitsOf f code ks).length := by unfold upTo; rw [List.take_length]

theorem read_at {f code : Nat → Nat} {ks : List Nat} {q k : Nat} (h : ks[q]? = some k) :
    Bt.rval (strOf (Bt.pack (bitsOf f code ks))) (upTo f code ks q) (f k) = rev (code k) (f k) ∧ upTo f code ks q + f k ≤ 8 * (strOf (Bt.pack (bitsOf f code ks))).size := by
  have hq := (List.getElem?_eq_some_iff.1 h)
  have e : ks = ks.take q ++ k :: ks.drop (q + 1) := by
    rw [← hq.2, List.getElem_cons_drop, List.take_append_drop]
  have hr := read_code f code (ks.take q) (ks.drop (q + 1)) k
  rw [← e] at hr
  refine ⟨hr.1, ?_⟩
  rw [bits_bytes]
  have := hr.2
  unfold upTo
  omega

theorem wk_new (w : World) (bs : List Bool) (hbs : bs = []) : Wk (w.alloc (.cells #[.slice none 0 0, .int .i64 0] 65)) (w.alloc (.cells #[.slice none 0 0, .int .i64 0] 65)) w.heap.size bs [] (.slice none 0 0) := by
  subst hbs
  exact ⟨wr_new, World.ownsRow_nil _ _ _ _, Touch.refl _ _, fun k hk => .inl (fp_new hk)⟩
end Go.Proofs.Ythengfclijclmaa

/- What was learnt of some bytes; conditions: those told. -/
namespace Go.Proofs.Ythengfclijclmaa
open Go.RowKit
open Go.Lib

open Go.Maps
/-- The last place from f on, ahead of L, at which three bytes stand that are this number; -1: there is none. -/
def lastP (d : ByteArray) (f : Nat) : Nat → Nat → Int
  | 0, _ => -1
  | L + 1, key => if f ≤ L ∧ k3 d L = key then (L : Int) else lastP d f L key
theorem lastP_in (d : ByteArray) (f : Nat) : ∀ (L key : Nat), -1 ≤ lastP d f L key ∧ lastP d f L key < L
  | 0, _ => by unfold lastP; omega
  | L + 1, key => by
    have := lastP_in d f L key
    unfold lastP
    split <;> omega
def befV (d : ByteArray) (f n : Nat) : List Value := (List.range n).map fun i => .int .i64 (lastP d f (f + i) (k3 d (f + i)))
theorem befV_succ (d : ByteArray) (f n : Nat) : befV d f (n + 1) = befV d f n ++ [.int .i64 (lastP d f (f + n) (k3 d (f + n)))] := by
  unfold befV
  rw [List.range_succ, List.map_append]
  rfl
theorem k3_lt (d : ByteArray) (p : Nat) : k3 d p < 16777216 := by
  have h : ∀ i, Bt.byteN d i < 256 := fun i => by unfold Bt.byteN; exact UInt8.toNat_lt _
  have h0 := h p
  have h1 := h (p + 1)
  have h2 := h (p + 2)
  unfold k3
  omega
theorem law3 : Keyed Try.prog 3 := int_keyed Try.underlying3
theorem zero3 (w : World) : (zeroValue 3).run Try.prog w = .ok (.int .i64 0) w := by kernel_rfl
theorem info3Q : (Try.prog.info? 3).map (fun i => (i.zero, i.size, i.bytes)) = some (some (.int .i64 0), 1, 8) := by kernel_rfl
structure Past (w : World) (pb mb : Nat) (d : ByteArray) (f L : Nat) (vb : Value) : Prop where
  blk : w.heap[pb]? = some (.cells #[.string d, .int .i64 (f : Nat), .map (some mb), vb] 98 (0, 0))
  map : ∃ D : DataW Unit, w.ownsMap Try.prog 3 (plainElem Try.prog 3) mb (L - f) D ∧ IsMap D ∧ ∀ key : Nat, D.atKey (.int .i64 (key : Nat)) (.lit (.int .i64 0)) = .lit (.int .i64 (lastP d f L key + 1))
  row : w.ownsRow 0 3 1 vb (L - f) (befV d f (L - f))
theorem keyN (key : Nat) (h : key < 16777216) : keyOf Try.prog 3 (.int .i64 (key : Nat)) = some (.int .i64 (key : Nat)) := keyOf_int_mk Try.underlying3 (WalkArith.wf_i64 (by omega))
/-- What the past tells of three bytes. -/
theorem Past.look {w : World} {pb mb : Nat} {d : ByteArray} {f L : Nat} {vb : Value} (h : Past w pb mb d f L vb) (key : Nat) (hk : key < 16777216) : (Instr.lookup 96 (.map (some mb)) (.int .i64 (key : Nat)) false).run Try.prog w = .ok (.int .i64 (lastP d f L key + 1)) w := by
  obtain ⟨D, hown, _, hat⟩ := h.map
  obtain ⟨c, hrun, hc, _⟩ := hown.lookup_int law3 Try.underlying96 Try.underlying3 (zero3 _) (keyN key hk)
  have := hat key
  rw [hc] at this
  simp at this
  rw [hrun, this]
theorem Past.kept {w w' : World} {pb mb : Nat} {d : ByteArray} {f L : Nat} {vb : Value} (h : Past w pb mb d f L vb) (t : Touch (fun _ => False) w w') : Past w' pb mb d f L vb := by
  obtain ⟨D, hown, hm, hat⟩ := h.map
  refine ⟨(t.block pb (lt_of_block h.blk) id).trans h.blk, ⟨D, ?_, hm, hat⟩, own_kept h.row (fun g hg => t.block g (h.row.lt g hg).2 id)⟩
  exact hown.kept (row := none) ⟨t.os, t.tape, t.output, t.size, fun k hk _ => t.block k hk id⟩ (by simp)
end Go.Proofs.Ythengfclijclmaa
