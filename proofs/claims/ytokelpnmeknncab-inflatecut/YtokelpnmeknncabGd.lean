/- A table as New leaves it, what it answers, and what is asked of lay; no condition beside those told. -/
import Derived.Test.YtokelpnmeknncabNt
namespace Go.Proofs.Ytokelpnmeknncab
open Go.RowKit

/-- The cells tell the symbols that are laid, and nothing else. -/
def Good (C : Tb.Cells) (sz : Nat) (laid : Nat → Prop) (f path : Nat → Nat) : Prop :=
  (sz = 0 ∧ ∀ i, ¬ laid i) ∨ (0 < sz ∧ sz % 32 = 0 ∧ ∃ E R, Tb.Inv C sz laid f path E R ∧ ∀ d q, E (d + 1) q → ∃ j, laid j ∧ 5 * (d + 1) < f j ∧ path j % 2 ^ (5 * (d + 1)) = q)

theorem Good.same {C : Tb.Cells} {sz : Nat} {laid laid' : Nat → Prop} {f path : Nat → Nat} (h : Good C sz laid f path) (e : ∀ i, laid i ↔ laid' i) : Good C sz laid' f path := by
  have : laid = laid' := by funext i; exact propext (e i)
  rw [← this]
  exact h

/-- What lay does, as New leans on it. -/
def LaySpec : Prop := ∀ (b sz g len n i0 : Nat) (C : Tb.Cells) (f code path : Nat → Nat) (laid : Nat → Prop) (w : World),
  Tab w b (.slice (some ⟨g, 0, none⟩) len len) C sz → Ints w (some ⟨g, 0, none⟩) len (fun i => (code i : Nat)) → ¬ TFp w b g → i0 < len → n ≤ 1024 → sz ≤ 96 * n →
  Good C sz laid f path → ¬ laid i0 → Tb.Sym (fun i => laid i ∨ i = i0) f path → path i0 = rev (code i0) (f i0) →
  Calls Try.prog 24 #[.pointer (some ⟨b, 0, none⟩), .int .i64 i0, .int .i64 (f i0 : Nat)] w fun e w' =>
    e = .returned (.tuple #[]) ∧ ∃ C' sz', TStep w w' b (.slice (some ⟨g, 0, none⟩) len len) C' sz' ∧ Good C' sz' (fun i => laid i ∨ i = i0) f path ∧ sz' ≤ 96 * (n + 1)

/-- A table of the lengths f, in the blocks from lo up to hi. -/
def TblIn (w : World) (b : Nat) (f : Nat → Nat) (len lo hi : Nat) : Prop :=
  ∃ g C sz, Tab w b (.slice (some ⟨g, 0, none⟩) len len) C sz ∧ Ints w (some ⟨g, 0, none⟩) len (fun i => (codeOf (cOf f len) f i : Nat)) ∧ Good C sz (Laid f len) f (pathOf f len) ∧ sz ≤ 100000 ∧ ∀ k, (TFp w b k ∨ k = g) → lo ≤ k ∧ k < hi

theorem TFp.kept {w w' : World} {b k : Nat} (h : TFp w' b k) (e : w'.heap[b]? = w.heap[b]?) : TFp w b k := by
  rcases h with h | ⟨c, v, h1, h2⟩
  · exact .inl h
  · exact .inr ⟨c, v, by rw [← e]; exact h1, h2⟩

theorem TblIn.kept {w w' : World} {b : Nat} {f : Nat → Nat} {len lo hi : Nat} {S : Nat → Prop} (h : TblIn w b f len lo hi) (t : Touch S w w') (hS : ∀ k, lo ≤ k → k < hi → ¬ S k) : TblIn w' b f len lo hi := by
  obtain ⟨g, C, sz, h1, h2, h3, h4, h5⟩ := h
  have hb : w'.heap[b]? = w.heap[b]? := t.block b h1.lt (hS b (h5 b (.inl (.inl rfl))).1 (h5 b (.inl (.inl rfl))).2)
  refine ⟨g, C, sz, h1.kept (fun k hk => t.block k (h1.fp_lt hk) (hS k (h5 k (.inl hk)).1 (h5 k (.inl hk)).2)), ?_, h3, h4, fun k hk => ?_⟩
  · rcases h2 with h | ⟨b', o, ha, hlt, hc⟩
    · exact .inl h
    · simp at ha
      obtain ⟨rfl, rfl⟩ := ha
      exact .inr ⟨g, 0, rfl, Nat.lt_of_lt_of_le hlt t.size, fun i hi => by rw [t.cell (p := ⟨g, 0 + i, none⟩) hlt (hS g (h5 g (.inr rfl)).1 (h5 g (.inr rfl)).2)]; exact hc i hi⟩
  · rcases hk with hk | hk
    · exact h5 k (.inl (hk.kept hb))
    · exact h5 k (.inr hk)

theorem TblIn.lt {w : World} {b : Nat} {f : Nat → Nat} {len lo hi : Nat} (h : TblIn w b f len lo hi) : b < hi ∧ lo ≤ b ∧ b < w.heap.size := by
  obtain ⟨g, C, sz, h1, _, _, _, h5⟩ := h
  have := h5 b (.inl (.inl rfl))
  exact ⟨this.2, this.1, h1.lt⟩

theorem next_tbl (b r t lo hi : Nat) (f : Nat → Nat) (len : Nat) (s : ByteArray) (w : World) (hf : ∀ i, f i ≤ 15) (he : errOf f len = 0) (hT : TblIn w b f len lo hi) (hR : Rd w r s t) (hs : s.size ≤ 140737488355328) (ht : t ≤ 8 * s.size) :
    Calls Try.prog 14 #[.pointer (some ⟨b, 0, none⟩), .pointer (some ⟨r, 0, none⟩)] w fun e w' => Answer (Laid f len) f (pathOf f len) (Bt.rval s t (min 15 (8 * s.size - t))) s t r w e w' := by
  obtain ⟨g, C, sz, h1, h2, h3, h4, h5⟩ := hT
  rcases h3 with ⟨rfl, hno⟩ | ⟨hpos, _, E, R, hv, hown⟩
  · refine (next_empty b r _ C w h1).mono ?_
    rintro e w' ⟨rfl, rfl⟩
    exact .inr (.inr ⟨fun i hi => absurd hi (hno i), rfl, RStep.refl hR⟩)
  · have hsy : Tb.Sym (Laid f len) f (pathOf f len) := sym_of f hf len (err_ok he).1
    refine next_any b r sz t _ C (Laid f len) f (pathOf f len) E R s w h1 hR hpos h4 hv hsy ?_ hs ht
    intro d q hE
    rcases d with _ | d
    · omega
    · obtain ⟨j, hj, hd, _⟩ := hown d q hE
      have := hf j
      omega

theorem codes_tbl (b lo hi : Nat) (f : Nat → Nat) (len : Nat) (w : World) (hl : len ≤ 1024) (hT : TblIn w b f len lo hi) :
    Calls Try.prog 10 #[.pointer (some ⟨b, 0, none⟩)] w fun e w' => ∃ v, e = .returned v ∧ w'.ownsRow w.heap.size 3 1 v len ((List.range len).map fun i => .int .i64 (codeOf (cOf f len) f i : Nat)) ∧ Touch (fun _ => False) w w' := by
  obtain ⟨g, C, sz, ⟨v, hb, _⟩, h2, h3, h4, h5⟩ := hT
  exact tcodes_any b g len len v _ w hb hl h2

end Go.Proofs.Ytokelpnmeknncab
