/- Texts of this proof, one behind the other: what each says stands ahead of it. -/
import Derived.Test.YtohcngiiijokkaaDoorM14
import Derived.Test.YtohcngiiijokkaaDoorM15
import Derived.Test.YtohcngiiijokkaaDoorM11
/- New and the document's New of any list: what both answer; conditions: the list fits into memory. -/
namespace Go.Proofs.YtohcngiiijokkaaDoor
open Go.RowKit

def okLens (g : Nat → Int) (len : Nat) : Prop := ∀ i, i < len → 0 ≤ g i ∧ g i ≤ 15
def fl (g : Nat → Int) (len i : Nat) : Nat := if i < len then min (g i).toNat 15 else 0

theorem fl_le (g : Nat → Int) (len i : Nat) : fl g len i ≤ 15 := by
  unfold fl
  split <;> omega
theorem fl_eq {g : Nat → Int} {len : Nat} (h : okLens g len) {i : Nat} (hi : i < len) : g i = ((fl g len i : Nat) : Int) := by
  have := h i hi
  unfold fl
  rw [if_pos hi]
  omega
theorem Ints.ext {w : World} {a : Option Addr} {len : Nat} {f g : Nat → Int} (h : Ints w a len f) (e : ∀ i, i < len → f i = g i) : Ints w a len g := by
  rcases h with h | ⟨b, o, rfl, hb, hc⟩
  · exact .inl h
  · exact .inr ⟨b, o, rfl, hb, fun i hi => by rw [← e i hi]; exact hc i hi⟩

/-- What is wrong with lengths: 1 an argument that is none, else as layer 2 says; 0: nothing. -/
def Verd (g : Nat → Int) (len c : Nat) : Prop :=
  (len ≤ 1024 ∧ okLens g len ∧ c = errOf (fl g len) len) ∨ (¬ (len ≤ 1024 ∧ okLens g len) ∧ c = 1)

theorem Verd.same {g : Nat → Int} {len c d : Nat} (h : Verd g len c) (k : Verd g len d) : c = d := by
  rcases h with ⟨h1, h2, h3⟩ | ⟨h1, h2⟩
  · rcases k with ⟨_, _, k3⟩ | ⟨k1, _⟩
    · rw [h3, k3]
    · exact absurd ⟨h1, h2⟩ k1
  · rcases k with ⟨k1, k2, _⟩ | ⟨_, k2⟩
    · exact absurd ⟨k1, k2⟩ h1
    · rw [h2, k2]

theorem verd_le {g : Nat → Int} {len c : Nat} (h : Verd g len c) : c ≤ 7 := by
  rcases h with ⟨_, _, rfl⟩ | ⟨_, rfl⟩
  · unfold errOf
    split
    · omega
    · split <;> omega
  · omega

theorem first_bad (g : Nat → Int) : ∀ len, ¬ okLens g len → ∃ m, m < len ∧ (g m < 0 ∨ 15 < g m) ∧ okLens g m
  | 0, h => absurd (fun i hi => by omega) h
  | n + 1, h => by
    by_cases hn : okLens g n
    · refine ⟨n, by omega, ?_, hn⟩
      rcases Int.lt_or_le (g n) 0 with h0 | h0
      · exact .inl h0
      · rcases Int.lt_or_le 15 (g n) with h1 | h1
        · exact .inr h1
        · refine absurd (fun i hi => ?_) h
          rcases Nat.lt_or_ge i n with k | k
          · exact hn i k
          · obtain rfl : i = n := by omega
            exact ⟨h0, h1⟩
    · obtain ⟨m, h1, h2, h3⟩ := first_bad g n hn
      exact ⟨m, by omega, h2, h3⟩

theorem new_all (a : Option Addr) (len cap : Nat) (g : Nat → Int) (w : World) (hl : len ≤ 140737488351232) (hi : Ints w a len g) :
    Calls Tryd.prog 75 #[.slice a len cap] w fun e w' => ∃ c, Verd g len c ∧ Touch (fun _ => False) w w' ∧
      ((c ≠ 0 ∧ e = .returned (.tuple #[.pointer none, .int .i64 (c : Nat)])) ∨ (c = 0 ∧ ∃ b, e = .returned (.tuple #[.pointer (some ⟨b, 0, none⟩), .int .i64 0]) ∧ TblIn w' b (fl g len) len w.heap.size w'.heap.size)) := by
  rcases Nat.lt_or_ge 1024 len with hbig | hsm
  · refine (new_big a len cap w hbig hl).mono ?_
    rintro e w' ⟨rfl, rfl⟩
    exact ⟨1, .inr ⟨fun h => by omega, rfl⟩, Touch.refl _ _, .inl ⟨by decide, rfl⟩⟩
  · by_cases hok : okLens g len
    · have hi' : Ints w a len (fun i => ((fl g len i : Nat) : Int)) := hi.ext (fun i h => fl_eq hok h)
      by_cases he : errOf (fl g len) len = 0
      · refine (new_ok a len cap (fl g len) w hsm (fl_le g len) hi' he).mono ?_
        rintro e w' ⟨b, rfl, hT, ht⟩
        exact ⟨0, .inl ⟨hsm, hok, he.symm⟩, ht, .inr ⟨rfl, b, rfl, hT⟩⟩
      · refine (new_err a len cap (fl g len) w hsm (fl_le g len) hi' he).mono ?_
        rintro e w' ⟨rfl, ht⟩
        exact ⟨_, .inl ⟨hsm, hok, rfl⟩, ht, .inl ⟨he, rfl⟩⟩
    · obtain ⟨m, h1, h2, h3⟩ := first_bad g len hok
      refine (new_bad a len cap m g (fl g m) w hsm (fl_le g m) hi h1 (fun i h => fl_eq h3 h) h2).mono ?_
      rintro e w' ⟨rfl, ht⟩
      exact ⟨1, .inr ⟨fun h => hok h.2, rfl⟩, ht, .inl ⟨by decide, rfl⟩⟩

theorem refnew_all (a : Option Addr) (len cap : Nat) (g : Nat → Int) (w : World) (hl : len ≤ 140737488351232) (hi : Ints w a len g) :
    Calls Tryd.prog 41 #[.slice a len cap] w fun e w' => ∃ c, Verd g len c ∧ Touch (fun _ => False) w w' ∧
      ((c ≠ 0 ∧ e = .returned (.tuple #[.slice none 0 0, .int .i64 (c : Nat)])) ∨ (c = 0 ∧ ∃ v, e = .returned (.tuple #[v, .int .i64 0]) ∧ w'.ownsRow w.heap.size 3 1 v len ((List.range len).map fun i => .int .i64 (codeOf (cOf (fl g len) len) (fl g len) i : Nat)))) := by
  rcases Nat.lt_or_ge 1024 len with hbig | hsm
  · refine (refnew_big a len cap w hbig hl).mono ?_
    rintro e w' ⟨rfl, rfl⟩
    exact ⟨1, .inr ⟨fun h => by omega, rfl⟩, Touch.refl _ _, .inl ⟨by decide, rfl⟩⟩
  · by_cases hok : okLens g len
    · have hi' : Ints w a len (fun i => ((fl g len i : Nat) : Int)) := hi.ext (fun i h => fl_eq hok h)
      by_cases he : errOf (fl g len) len = 0
      · refine (refnew_codes a len cap (fl g len) w hsm (fl_le g len) hi' he).mono ?_
        rintro e w' ⟨v, rfl, ho, ht⟩
        rw [natsV, List.map_map] at ho
        exact ⟨0, .inl ⟨hsm, hok, he.symm⟩, ht, .inr ⟨rfl, v, rfl, ho⟩⟩
      · refine (refnew_err a len cap (fl g len) w hsm (fl_le g len) hi' he).mono ?_
        rintro e w' ⟨rfl, rfl⟩
        exact ⟨_, .inl ⟨hsm, hok, rfl⟩, Touch.refl _ _, .inl ⟨he, rfl⟩⟩
    · obtain ⟨m, h1, h2, h3⟩ := first_bad g len hok
      refine (refnew_bad a len cap m g (fl g m) w hsm (fl_le g m) hi h1 (fun i h => fl_eq h3 h) h2).mono ?_
      rintro e w' ⟨rfl, rfl⟩
      exact ⟨1, .inr ⟨fun h => hok h.2, rfl⟩, Touch.refl _ _, .inl ⟨by decide, rfl⟩⟩
end Go.Proofs.YtohcngiiijokkaaDoor

/- tablesOf: both tables, or what is wrong with the first lengths that make none; conditions: at most 1024 lengths of at most 15 each. -/
namespace Go.Proofs.YtohcngiiijokkaaDoor
open Go.RowKit Go.Lib

theorem TblIn.wide {w : World} {b : Nat} {f : Nat → Nat} {len lo hi lo' hi' : Nat} (h : TblIn w b f len lo hi) (h1 : lo' ≤ lo) (h2 : hi ≤ hi') : TblIn w b f len lo' hi' := by
  obtain ⟨g, C, sz, a1, a2, a3, a4, a5⟩ := h
  exact ⟨g, C, sz, a1, a2, a3, a4, fun k hk => ⟨Nat.le_trans h1 (a5 k hk).1, Nat.lt_of_lt_of_le (a5 k hk).2 h2⟩⟩

theorem results_ct {P : Program} {fn : Func} {t p : Tmp} {ty : TypeId} (h : fn.results = #[.cell p ty, .tmp t]) (tmps : Array Value) (w : World) (g : Nat) (et : TypeId) (cs : Array Value) (fr : Nat × Nat) (d : TypeDesc)
    (hp : tmps.getD p undef = .pointer (some ⟨g, 0, none⟩)) (hg : w.heap[g]? = some (.cells cs et fr))
    (hu : P.underlying ty = some d) (hd : (match d with | .struct _ | .array _ _ => true | _ => false) = true) (hi : (P.info? ty).map (·.size) = some cs.size) :
    (results fn tmps).run P w = .ok (.tuple #[.agg cs, tmps.getD t undef]) w := by
  have hp' : tmps[p]?.getD undef = .pointer (some ⟨g, 0, none⟩) := by simpa using hp
  simp [results, h, hp', asAddr, run_loadVar_row w g et ty cs fr d hg hu hd hi]

theorem results_c {P : Program} {fn : Func} {p : Tmp} {ty : TypeId} (h : fn.results = #[.cell p ty]) (tmps : Array Value) (w : World) (g : Nat) (et : TypeId) (cs : Array Value) (fr : Nat × Nat) (d : TypeDesc)
    (hp : tmps.getD p undef = .pointer (some ⟨g, 0, none⟩)) (hg : w.heap[g]? = some (.cells cs et fr))
    (hu : P.underlying ty = some d) (hd : (match d with | .struct _ | .array _ _ => true | _ => false) = true) (hi : (P.info? ty).map (·.size) = some cs.size) :
    (results fn tmps).run P w = .ok (.agg cs) w := by
  have hp' : tmps[p]?.getD undef = .pointer (some ⟨g, 0, none⟩) := by simpa using hp
  simp [results, h, hp', asAddr, run_loadVar_row w g et ty cs fr d hg hu hd hi]

/-- What tablesOf answers. -/
def ToPost (fl : Nat → Nat) (ll : Nat) (fd : Nat → Nat) (ld : Nat) (w : World) (e : Ending) (w' : World) : Prop :=
  Touch (fun _ => False) w w' ∧
  ((errOf fl ll = 0 ∧ errOf fd ld = 0 ∧ ∃ bl bd, e = .returned (.tuple #[.agg #[.pointer (some ⟨bl, 0, none⟩), .pointer (some ⟨bd, 0, none⟩)], .int .i64 0]) ∧ TblIn w' bl fl ll w.heap.size w'.heap.size ∧ TblIn w' bd fd ld w.heap.size w'.heap.size) ∨
   (errOf fl ll ≠ 0 ∧ e = .returned (.tuple #[.agg #[.pointer none, .pointer none], .int .i64 (errOf fl ll : Nat)])) ∨
   (errOf fl ll = 0 ∧ errOf fd ld ≠ 0 ∧ e = .returned (.tuple #[.agg #[.pointer none, .pointer none], .int .i64 (errOf fd ld : Nat)])))

set_option maxRecDepth 100000 in
set_option maxHeartbeats 4000000 in
theorem tablesOf_any (a a' : Option Addr) (ll ld cap cap' : Nat) (fl fd : Nat → Nat) (w : World) (hl : ll ≤ 1024) (hd : ld ≤ 1024) (hfl : ∀ i, fl i ≤ 15) (hfd : ∀ i, fd i ≤ 15) (hi : Ints w a ll (fun i => (fl i : Nat))) (hi' : Ints w a' ld (fun i => (fd i : Nat))) :
    Calls Tryd.prog 67 #[.slice a ll cap, .slice a' ld cap'] w (ToPost fl ll fd ld w) := by
  have T0 := hid ((Touch.refl (fun _ => False) w).alloc (.cells #[.pointer none, .pointer none] 84))
  have fb0 : (w.alloc (.cells #[.pointer none, .pointer none] 84)).heap[w.heap.size]? = some (.cells #[.pointer none, .pointer none] 84 (0, 0)) := by
    show (w.heap.push _)[_]? = _
    simp
  have HI := hid (hi.beside T0.out (fun _ _ _ _ e => e))
  have HI' := hid (hi'.beside T0.out (fun _ _ _ _ e => e))
  clear hi hi'
  have hwA : w.heap.size < (w.alloc (.cells #[.pointer none, .pointer none] 84)).heap.size := by simp
  obtain ⟨q, hq⟩ : ∃ q, q = w.heap.size := ⟨_, rfl⟩
  rw [← hq] at fb0 hwA
  have HQ := hid hq
  go_enter Tryd.func67, Tryd.ntmps67
  go_wp2_with fail
  rw [← hq]
  clear hq
  generalize w.alloc (.cells #[.pointer none, .pointer none] 84) = wA at *
  by_cases el : errOf fl ll = 0
  · refine (new_ok a ll cap fl wA hl hfl HI.out el).mono ?_
    rintro e w1 ⟨bl, rfl, tbl, tc1⟩
    have fb1 : w1.heap[q]? = some (.cells #[.pointer none, .pointer none] 84 (0, 0)) := by rw [tc1.block q hwA id]; exact fb0
    have HI2 := hid (HI'.out.beside tc1 (fun _ _ _ _ e => e))
    have T1 := hid (T0.out.trans tc1 (fun _ _ e => e))
    have TB := hid tbl
    have hz1 := tc1.size
    clear tbl tc1 fb0
    go_wp2_with fail
    by_cases ed : errOf fd ld = 0
    · refine (new_ok a' ld cap' fd w1 hd hfd HI2.out ed).mono ?_
      rintro e w2 ⟨bd, rfl, tbd, tc2⟩
      have fb2 : w2.heap[q]? = some (.cells #[.pointer none, .pointer none] 84 (0, 0)) := by rw [tc2.block q (by omega) id]; exact fb1
      have T2 := hid (T1.out.trans tc2 (fun _ _ e => e))
      have TB2 := hid ((TB.out.kept tc2 (fun _ _ _ e => e)).wide (lo' := wA.heap.size) (hi' := w2.heap.size) (Nat.le_refl _) tc2.size)
      have TD2 := hid (tbd.wide (lo' := wA.heap.size) (hi' := w2.heap.size) hz1 (Nat.le_refl _))
      have k0 := cell_two0 fb2
      have k1 := cell_two1 fb2
      have kf0 := free_two (i := 0) fb2
      have kf1 := free_two (i := 1) fb2
      have FB2 := hid fb2
      have EL := hid el
      have ED := hid ed
      clear tbd tc2 fb1 fb2 TB el ed
      go_wp2
      have hfb := two_set1 (x := .pointer (some ⟨bd, 0, none⟩)) (two_set0 (x := .pointer (some ⟨bl, 0, none⟩)) FB2.out)
      refine bodyPost_ret (results_ct rfl _ _ q 84 _ (0, 0) _ rfl hfb Tryd.underlying84 rfl (by kernel_rfl)) rfl ?_
      have hqw := HQ.out
      have tcs := (T2.out.setCell (p := ⟨q, 0, none⟩) (fun h => absurd h (by simp; omega)) (.pointer (some ⟨bl, 0, none⟩))).setCell (p := ⟨q, 1, none⟩) (fun h => absurd h (by simp; omega)) (.pointer (some ⟨bd, 0, none⟩))
      have tks := ((Touch.refl (fun k => k = q) w2).setCell (p := ⟨q, 0, none⟩) (fun _ => rfl) (.pointer (some ⟨bl, 0, none⟩))).setCell (p := ⟨q, 1, none⟩) (fun _ => rfl) (.pointer (some ⟨bd, 0, none⟩))
      have hsz : ((w2.setCell ⟨q, 0, none⟩ (.pointer (some ⟨bl, 0, none⟩))).setCell ⟨q, 1, none⟩ (.pointer (some ⟨bd, 0, none⟩))).heap.size = w2.heap.size := by simp [World.setCell]
      refine ⟨tcs, .inl ⟨EL.out, ED.out, bl, bd, rfl, ?_, ?_⟩⟩
      · rw [hsz]
        exact (TB2.out.kept tks (fun k h1 _ e => by omega)).wide (by omega) (Nat.le_refl _)
      · rw [hsz]
        exact (TD2.out.kept tks (fun k h1 _ e => by omega)).wide (by omega) (Nat.le_refl _)
    · refine (new_err a' ld cap' fd w1 hd hfd HI2.out ed).mono ?_
      rintro e w2 ⟨rfl, tc2⟩
      have fb2 : w2.heap[q]? = some (.cells #[.pointer none, .pointer none] 84 (0, 0)) := by rw [tc2.block q (by omega) id]; exact fb1
      have T2 := hid (T1.out.trans tc2 (fun _ _ e => e))
      have k0 := cell_two0 fb2
      have k1 := cell_two1 fb2
      have kf0 := free_two (i := 0) fb2
      have kf1 := free_two (i := 1) fb2
      have FB2 := hid fb2
      have EL := hid el
      have ED := hid ed
      have hne : ((errOf fd ld : Int) != 0) = true := by simp; omega
      clear tc2 fb1 fb2 TB el ed
      go_wp2
      have hfb := two_set1 (x := .pointer none) (two_set0 (x := .pointer none) FB2.out)
      refine bodyPost_ret (results_ct rfl _ _ q 84 _ (0, 0) _ rfl hfb Tryd.underlying84 rfl (by kernel_rfl)) rfl ?_
      have hqw := HQ.out
      have tcs := (T2.out.setCell (p := ⟨q, 0, none⟩) (fun h => absurd h (by simp; omega)) (.pointer none)).setCell (p := ⟨q, 1, none⟩) (fun h => absurd h (by simp; omega)) (.pointer none)
      exact ⟨tcs, .inr (.inr ⟨EL.out, ED.out, rfl⟩)⟩
  · refine (new_err a ll cap fl wA hl hfl HI.out el).mono ?_
    rintro e w1 ⟨rfl, tc1⟩
    have fb1 : w1.heap[q]? = some (.cells #[.pointer none, .pointer none] 84 (0, 0)) := by rw [tc1.block q hwA id]; exact fb0
    have T1 := hid (T0.out.trans tc1 (fun _ _ e => e))
    have k0 := cell_two0 fb1
    have k1 := cell_two1 fb1
    have kf0 := free_two (i := 0) fb1
    have kf1 := free_two (i := 1) fb1
    have FB1 := hid fb1
    have EL := hid el
    have hne : ((errOf fl ll : Int) != 0) = true := by simp; omega
    clear tc1 fb1 el
    go_wp2
    have hfb := two_set1 (x := .pointer none) (two_set0 (x := .pointer none) FB1.out)
    refine bodyPost_ret (results_ct rfl _ _ q 84 _ (0, 0) _ rfl hfb Tryd.underlying84 rfl (by kernel_rfl)) rfl ?_
    have hqw := HQ.out
    have tcs := (T1.out.setCell (p := ⟨q, 0, none⟩) (fun h => absurd h (by simp; omega)) (.pointer none)).setCell (p := ⟨q, 1, none⟩) (fun h => absurd h (by simp; omega)) (.pointer none)
    exact ⟨tcs, .inr (.inl ⟨EL.out, rfl⟩)⟩
end Go.Proofs.YtohcngiiijokkaaDoor
