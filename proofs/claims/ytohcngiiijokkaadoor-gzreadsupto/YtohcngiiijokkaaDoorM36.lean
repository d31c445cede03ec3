/- Texts of this proof, one behind the other: what each says stands ahead of it. -/
import Derived.Test.YtohcngiiijokkaaDoorM35
import Derived.Test.YtohcngiiijokkaaDoorM10
/- The document's unpacker: how its steps go together, and its tables; no condition beside those told. -/
namespace Go.Proofs.YtohcngiiijokkaaDoor
open Go.RowKit Go.Lib

theorem sv_same {w : World} {sb : Nat} {v v' : Value} {out out' : List Nat} {S S' : ByteArray} {t t' most most' er er' : Nat} (h : Sv w sb v out S t most er) (k : Sv w sb v' out' S' t' most' er') : v' = v := by
  have e1 := (sv_cells h).2.2.1
  have e2 := (sv_cells k).2.2.1
  rw [e1] at e2
  simp only [Option.some.injEq] at e2
  exact e2.symm

theorem SvDone.refl {w : World} {sb : Nat} {v : Value} {out : List Nat} {S : ByteArray} {t most er : Nat} (h : Sv w sb v out S t most er) : SvDone w w sb v out S t most er := ⟨v, h, Touch.refl _ _, .inl rfl⟩

theorem SvDone.trans {w w1 w2 : World} {sb : Nat} {v : Value} {out out2 : List Nat} {S : ByteArray} {t t2 most er er2 : Nat} (h : SvDone w w1 sb v out S t most er) (k : ∀ v', Sv w1 sb v' out S t most er → SvDone w1 w2 sb v' out2 S t2 most er2) : SvDone w w2 sb v out2 S t2 most er2 := by
  obtain ⟨v1, u1, c1, o1⟩ := h
  obtain ⟨v2, u2, c2, o2⟩ := k v1 u1
  refine ⟨v2, u2, c1.trans c2 (fun i hi e => ?_), ?_⟩
  · rcases e with e | e
    · exact .inl e
    · rcases o1 with o1 | ⟨g, o1, hg⟩
      · exact .inr (o1 ▸ e)
      · rw [o1] at e
        simp at e
        omega
  · rcases o2 with o2 | ⟨g, o2, hg⟩
    · rw [o2]
      exact o1
    · exact .inr ⟨g, o2, Nat.le_trans c1.size hg⟩

theorem SvDone.then {w w1 w2 : World} {sb : Nat} {v v1 : Value} {out out' out2 : List Nat} {S : ByteArray} {t t' t2 most er er' er2 : Nat} (h : SvDone w w1 sb v out S t most er) (u : Sv w1 sb v1 out' S t' most er') (k : SvDone w1 w2 sb v1 out2 S t2 most er2) : SvDone w w2 sb v out2 S t2 most er2 :=
  h.trans (fun v' hv => by
    have e := sv_same hv u
    rw [e] at k
    exact k)

theorem Sv.alloc {w : World} {sb : Nat} {v : Value} {out : List Nat} {S : ByteArray} {t most er : Nat} (h : Sv w sb v out S t most er) (o : Obj) : Sv (w.alloc o) sb v out S t most er := h.still ((Touch.refl _ w).alloc o)

/-- What stands in the list of bytes is another row now. -/
theorem sv_grown {w w1 : World} {sb : Nat} {v v' : Value} {out out' : List Nat} {S : ByteArray} {t most er : Nat} {o : Obj} (h : Sv w sb v out S t most er) (hg : (w.alloc o).grownBy w1 v.ownBlock) (hown : w1.ownsRow 0 5 1 v' out'.length (bytesV out'))
    (hwh : v'.ownBlock = v.ownBlock ∨ v'.ownBlock = some (w.heap.size + 1)) : SvDone w (w1.setCell ⟨sb, 2, none⟩ v') sb v out' S t most er := by
  obtain ⟨h1, h2⟩ := sv_new_out (h.alloc o) hg hown (by
    rcases hwh with e | e
    · exact .inl e
    · exact .inr ⟨_, e, by simp⟩)
  refine ⟨v', h1, ((Touch.refl (fun k => k = sb ∨ v.ownBlock = some k) w).alloc o).trans h2 (fun _ _ e => e), ?_⟩
  rcases hwh with e | e
  · exact .inl e
  · exact .inr ⟨_, e, by omega⟩

theorem Ints.done {w w' : World} {sb : Nat} {v : Value} {out : List Nat} {S : ByteArray} {t most er : Nat} {a : Option Addr} {len : Nat} {f : Nat → Int} (h : Ints w a len f) (d : SvDone w w' sb v out S t most er) (hap : ∀ b o, a = some ⟨b, o, none⟩ → b ≠ sb ∧ v.ownBlock ≠ some b) : Ints w' a len f := by
  obtain ⟨_, _, tc, _⟩ := d
  exact h.beside tc (fun b o e _ k => by
    rcases k with k | k
    · exact (hap b o e).1 k
    · exact (hap b o e).2 k)

theorem own_new {w : World} {base n : Nat} {a : Option Addr} {len cap : Nat} {xs : List Value} (h : w.ownsRow base 3 1 (.slice a len cap) n xs) : ∀ b o, a = some ⟨b, o, none⟩ → base ≤ b := by
  intro b o e
  rcases h.2 with ⟨hv, _⟩ | ⟨g, cap', cur, hv, hg, _⟩
  · simp only [Value.slice.injEq] at hv
    rw [e] at hv
    simp at hv
  · simp only [Value.slice.injEq] at hv
    rw [e] at hv
    simp only [Option.some.injEq, Addr.mk.injEq] at hv
    omega

/-- The codes of lengths that make a table. -/
theorem rnew_tbl (a : Option Addr) (len cap : Nat) (f : Nat → Nat) (w : World) (hT : Inf.Tbl f len) (hi : Ints w a len (fun i => (f i : Nat))) :
    Calls Tryd.prog 41 #[.slice a len cap] w fun e w' => ∃ a' c', e = .returned (.tuple #[.slice a' len c', .int .i64 0]) ∧ Ints w' a' len (fun i => (codeOf (cOf f len) f i : Nat)) ∧ (∀ b o, a' = some ⟨b, o, none⟩ → w.heap.size ≤ b) ∧ Touch (fun _ => False) w w' := by
  refine (refnew_codes a len cap f w hT.few hT.le hi hT.ok).mono ?_
  rintro e w' ⟨v, rfl, ho, ht⟩
  rw [natsV, List.map_map] at ho
  obtain ⟨a', c', rfl, h2⟩ := own_ints' (f := fun i => ((codeOf (cOf f len) f i : Nat) : Int)) ho
  exact ⟨a', c', rfl, h2, own_new ho, ht⟩

theorem rnew_not (a : Option Addr) (len cap : Nat) (f : Nat → Nat) (w : World) (hl : len ≤ 1024) (hf : ∀ i, f i ≤ 15) (hi : Ints w a len (fun i => (f i : Nat))) (he : errOf f len ≠ 0) :
    Calls Tryd.prog 41 #[.slice a len cap] w fun e w' => e = .returned (.tuple #[.slice none 0 0, .int .i64 (errOf f len : Nat)]) ∧ w' = w := by
  refine (refnew_err a len cap f w hl hf hi he).mono ?_
  rintro e w' ⟨rfl, rfl⟩
  exact ⟨rfl, rfl⟩

/-! ### What comes again, way by way -/
theorem ag_none {fd : Nat → Nat} {ld : Nat} {s : ByteArray} {most sym t : Nat} {out : List Nat} (c1 : 285 < sym) : Inf.ag fd ld s most sym t out = (5, t, out) := by
  unfold Inf.ag
  rw [if_pos c1]
theorem ag_cut {fd : Nat → Nat} {ld : Nat} {s : ByteArray} {most sym t : Nat} {out : List Nat} (c1 : ¬ 285 < sym) (c2 : 8 * s.size < t + lb sym) : Inf.ag fd ld s most sym t out = (3, t, out) := by
  unfold Inf.ag
  rw [if_neg c1, if_pos c2]
theorem ag_next {fd : Nat → Nat} {ld : Nat} {s : ByteArray} {most sym t e d t2 : Nat} {out : List Nat} (c1 : ¬ 285 < sym) (c2 : ¬ 8 * s.size < t + lb sym) (hn : Inf.nx fd ld s (t + lb sym) = (e, d, t2)) (c3 : e ≠ 0) : Inf.ag fd ld s most sym t out = (e, t + lb sym, out) := by
  unfold Inf.ag
  rw [if_neg c1, if_neg c2]
  simp only [hn]
  rw [if_pos c3]
theorem ag_bad {fd : Nat → Nat} {ld : Nat} {s : ByteArray} {most sym t d t2 : Nat} {out : List Nat} (c1 : ¬ 285 < sym) (c2 : ¬ 8 * s.size < t + lb sym) (hn : Inf.nx fd ld s (t + lb sym) = (0, d, t2)) (c4 : 29 < d) : Inf.ag fd ld s most sym t out = (5, t2, out) := by
  unfold Inf.ag
  rw [if_neg c1, if_neg c2]
  simp only [hn]
  rw [if_neg (by omega), if_pos c4]
theorem ag_cut2 {fd : Nat → Nat} {ld : Nat} {s : ByteArray} {most sym t d t2 : Nat} {out : List Nat} (c1 : ¬ 285 < sym) (c2 : ¬ 8 * s.size < t + lb sym) (hn : Inf.nx fd ld s (t + lb sym) = (0, d, t2)) (c4 : ¬ 29 < d) (c5 : 8 * s.size < t2 + db d) : Inf.ag fd ld s most sym t out = (3, t2, out) := by
  unfold Inf.ag
  rw [if_neg c1, if_neg c2]
  simp only [hn]
  rw [if_neg (by omega), if_neg c4, if_pos c5]
theorem ag_far {fd : Nat → Nat} {ld : Nat} {s : ByteArray} {most sym t d t2 : Nat} {out : List Nat} (c1 : ¬ 285 < sym) (c2 : ¬ 8 * s.size < t + lb sym) (hn : Inf.nx fd ld s (t + lb sym) = (0, d, t2)) (c4 : ¬ 29 < d) (c5 : ¬ 8 * s.size < t2 + db d) (c6 : out.length < dl d + Bt.rval s t2 (db d)) : Inf.ag fd ld s most sym t out = (9, t2 + db d, out) := by
  unfold Inf.ag
  rw [if_neg c1, if_neg c2]
  simp only [hn]
  rw [if_neg (by omega), if_neg c4, if_neg c5, if_pos c6]
theorem ag_long {fd : Nat → Nat} {ld : Nat} {s : ByteArray} {most sym t d t2 : Nat} {out : List Nat} (c1 : ¬ 285 < sym) (c2 : ¬ 8 * s.size < t + lb sym) (hn : Inf.nx fd ld s (t + lb sym) = (0, d, t2)) (c4 : ¬ 29 < d) (c5 : ¬ 8 * s.size < t2 + db d) (c6 : ¬ out.length < dl d + Bt.rval s t2 (db d)) (c7 : most < out.length + (lenN sym + Bt.rval s t (lb sym))) : Inf.ag fd ld s most sym t out = (2, t2 + db d, out) := by
  unfold Inf.ag
  rw [if_neg c1, if_neg c2]
  simp only [hn]
  rw [if_neg (by omega), if_neg c4, if_neg c5, if_neg c6, if_pos c7]
theorem ag_ok {fd : Nat → Nat} {ld : Nat} {s : ByteArray} {most sym t d t2 : Nat} {out : List Nat} (c1 : ¬ 285 < sym) (c2 : ¬ 8 * s.size < t + lb sym) (hn : Inf.nx fd ld s (t + lb sym) = (0, d, t2)) (c4 : ¬ 29 < d) (c5 : ¬ 8 * s.size < t2 + db d) (c6 : ¬ out.length < dl d + Bt.rval s t2 (db d)) (c7 : ¬ most < out.length + (lenN sym + Bt.rval s t (lb sym))) : Inf.ag fd ld s most sym t out = (0, t2 + db d, Inf.again (dl d + Bt.rval s t2 (db d)) (lenN sym + Bt.rval s t (lb sym)) out) := by
  unfold Inf.ag
  rw [if_neg c1, if_neg c2]
  simp only [hn]
  rw [if_neg (by omega), if_neg c4, if_neg c5, if_neg c6, if_neg c7]

theorem rlen_at (x : Nat) (w : World) (h : 257 ≤ x) (h2 : x ≤ 285) : Calls Tryd.prog 43 #[.int .i64 (x : Nat)] w fun e w' => e = .returned (.tuple #[.int .i64 (lenN x : Nat), .int .i64 (lb x : Nat), .bool true]) ∧ w' = w := by
  rcases Nat.lt_or_ge x 285 with k | k
  · exact rlen_in x w h k
  · obtain rfl : x = 285 := by omega
    exact rlen_last w

theorem sv_again {w3 wr w2 : World} {sb g cap g2 cap2 N x : Nat} {v : Value} {out : List Nat} {S : ByteArray} {t most er : Nat} {o : Obj} (dn : SvDone w3 wr sb v out S t most er) (h : Sv wr sb (.slice (some ⟨g, 0, none⟩) N cap) out S t most er)
    (hg : (wr.alloc o).drew.grownBy w2 (some g)) (hown : w2.ownsRow 0 5 1 (.slice (some ⟨g2, 0, none⟩) (N + 1) cap2) (N + 1) (bytesV out ++ [.int .u8 (x : Nat)])) (hN : N = out.length) (hat : g2 = g ∨ g2 = wr.heap.size + 1) :
    SvDone w3 (w2.setCell ⟨sb, 2, none⟩ (.slice (some ⟨g2, 0, none⟩) (N + 1) cap2)) sb v (out ++ [x]) S t most er := by
  refine dn.then h (sv_grown h (o := o) ⟨hg.os, hg.tape, hg.output, hg.size, hg.block⟩ ?_ ?_)
  · rw [List.length_append, List.length_singleton, ← hN]
    unfold bytesV at hown ⊢
    rw [List.map_append]
    exact hown
  · rcases hat with e | e
    · exact .inl (by rw [e]; rfl)
    · exact .inr (by rw [e]; rfl)
end Go.Proofs.YtohcngiiijokkaaDoor
