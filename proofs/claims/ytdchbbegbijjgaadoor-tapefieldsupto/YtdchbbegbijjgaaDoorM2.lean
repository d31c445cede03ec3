/- Texts of this proof, one behind the other: what each says stands ahead of it. -/
import Derived.Test.YtdchbbegbijjgaaDoorM1
/- firstRecord, of any text; condition: the text fits into memory. -/
namespace Go.Proofs.YtdchbbegbijjgaaDoor
open Go.RowKit
open Go.Lib

theorem results_ct {P : Program} {fn : Func} {p q : Tmp} {ty : TypeId} (h : fn.results = #[.cell p ty, .tmp q]) (tmps : Array Value) (w : World) (g : Nat) (et : TypeId) (cs : Array Value) (fr : Nat × Nat) (d : TypeDesc)
    (hp : tmps.getD p undef = .pointer (some ⟨g, 0, none⟩)) (hg : w.heap[g]? = some (.cells cs et fr))
    (hu : P.underlying ty = some d) (hd : (match d with | .struct _ | .array _ _ => true | _ => false) = true) (hi : (P.info? ty).map (·.size) = some cs.size) :
    (results fn tmps).run P w = .ok (.tuple #[.agg cs, tmps.getD q undef]) w := by
  have hp' : tmps[p]?.getD undef = .pointer (some ⟨g, 0, none⟩) := by simpa using hp
  simp [results, h, hp', asAddr, run_loadVar_row w g et ty cs fr d hg hu hd hi]
theorem block_new (w : World) (cs : Array Value) (t : TypeId) : (w.alloc (.cells cs t)).heap[w.heap.size]? = some (.cells cs t (0, 0)) := by
  show (w.heap.push _)[_]? = _
  simp
theorem two_set {w : World} {g : Nat} {t : TypeId} {a0 a1 : Value} (h : w.heap[g]? = some (.cells #[a0, a1] t (0, 0))) (b0 b1 : Value) :
    ((w.setCell ⟨g, 0, none⟩ b0).setCell ⟨g, 1, none⟩ b1).heap[g]? = some (.cells #[b0, b1] t (0, 0)) :=
  block_set (block_set h 0 b0) 1 b1
theorem two_touch {w0 w : World} {g : Nat} (h : Touch (fun _ => False) w0 w) (hg : w0.heap.size ≤ g) (b0 b1 : Value) :
    Touch (fun _ => False) w0 ((w.setCell ⟨g, 0, none⟩ b0).setCell ⟨g, 1, none⟩ b1) :=
  (h.setCell (p := ⟨g, 0, none⟩) (fun k => absurd k (Nat.not_lt.2 hg)) b0).setCell (p := ⟨g, 1, none⟩) (fun k => absurd k (Nat.not_lt.2 hg)) b1
theorem ext_ba (s : ByteArray) (a b : Nat) : s.extract a b = ⟨((s.data.toList.drop a).take (b - a)).toArray⟩ := by
  rw [← ext_list]

/-- What firstRecord answers. -/
def frV (cs : List UInt8) : Value := match rec1 cs with
  | some (k, v) => .tuple #[.agg #[.string ⟨k.toArray⟩, .string ⟨v.toArray⟩], .int .i64 (szOf cs : Nat)]
  | none => .tuple #[.agg #[.string ⟨#[]⟩, .string ⟨#[]⟩], .int .i64 0]
theorem frV_none {cs : List UInt8} (h : rec1 cs = none) : frV cs = .tuple #[.agg #[.string ⟨#[]⟩, .string ⟨#[]⟩], .int .i64 0] := by unfold frV; rw [h]
theorem frV_some {cs k v : List UInt8} (h : rec1 cs = some (k, v)) : frV cs = .tuple #[.agg #[.string ⟨k.toArray⟩, .string ⟨v.toArray⟩], .int .i64 (szOf cs : Nat)] := by unfold frV; rw [h]

set_option maxRecDepth 100000 in
set_option maxHeartbeats 4000000 in
theorem firstRecord_any (s : ByteArray) (hs : s.size ≤ 140737488351232) (w : World) :
    Calls Tryd.prog 11 #[.string s] w fun e w' => e = .returned (frV s.data.toList) ∧ Touch (fun _ => False) w w' := by
  have hsl : s.data.toList.length = s.size := by rw [Array.length_toList]; rfl
  have B0 := hid (block_new w #[.string ⟨#[]⟩, .string ⟨#[]⟩] 28)
  have TA := hid ((Touch.refl (fun _ => False) w).alloc (.cells #[.string ⟨#[]⟩, .string ⟨#[]⟩] 28))
  have K := hid (recordSize_any s hs)
  have HAT := hid (at_opt s)
  obtain ⟨X, hX⟩ : ∃ X, X = frV s.data.toList := ⟨_, rfl⟩
  rw [← hX]
  have HX := hid hX
  clear hX
  by_cases hg : Good s.data.toList
  · have HR := hid (show rec1 s.data.toList = pairAt (inner s.data.toList) (idxOf 61 (inner s.data.toList)) from if_pos hg)
    obtain ⟨g1, g2, g3, g4, g5, g6, g7⟩ := hg
    have e : recSz s.data.toList = (szOf s.data.toList, dAh s.data.toList) := if_pos ⟨g1, g2, g3⟩
    rw [e] at K
    dsimp only at K
    have hlt := sz_lt s.data.toList g2
    have HIN := hid (show (s.extract (dAh s.data.toList + 1) (szOf s.data.toList - 1)).data.toList = inner s.data.toList from ext_list _ _ _)
    obtain ⟨sz, hsz⟩ : ∃ sz, sz = szOf s.data.toList := ⟨_, rfl⟩
    obtain ⟨n, hn⟩ : ∃ n, n = dAh s.data.toList := ⟨_, rfl⟩
    rw [← hsz] at K hlt HIN g4 g5 g7
    have HSZ := hid hsz.symm
    rw [← hn] at K g1 g2 g4 g6 HIN
    rw [hsl] at g5
    have hnS : n < s.size := by omega
    have hzS : sz - 1 < s.size := by omega
    rw [HAT.out n hnS] at g6
    rw [HAT.out (sz - 1) hzS] at g7
    have hb1 : (s[n].toNat : Int) = 32 := by rw [Option.some.inj g6]; rfl
    have hb2 : (s[sz - 1].toNat : Int) = 10 := by rw [Option.some.inj g7]; rfl
    have hc1 : ¬ (sz : Int) < (n : Int) + 2 := by omega
    have hc2 : ¬ (s.size : Int) < (sz : Int) := by omega
    have hn1 : ((sz : Int) - 1).toNat = sz - 1 := by omega
    have hn2 : ((n : Int) + 1).toNat = n + 1 := by omega
    have hi3 : (n : Int) + 1 ≤ (sz : Int) - 1 := by omega
    have hi4 : (sz : Int) - 1 ≤ (s.size : Int) := by omega
    have hi5 : (0 : Int) ≤ (sz : Int) - 1 := by omega
    have hi6 : (0 : Int) ≤ (n : Int) + 1 := by omega
    have hi1 : (n : Int) < (s.size : Int) := by omega
    have hi2 : (sz : Int) - 1 < (s.size : Int) := by omega
    obtain ⟨t, ht⟩ : ∃ t, t = s.extract (n + 1) (sz - 1) := ⟨_, rfl⟩
    have hts : t.size ≤ 140737488351232 := by rw [ht, ByteArray.size_extract]; omega
    rw [← ht] at HIN
    rw [← HIN.out] at HR
    have KC := hid (fun w => cut_any t w hts)
    have HT := hid ht.symm
    clear g6 g7 hsl e g3 hsz hn
    go_enter Tryd.func11, Tryd.ntmps11
    go_wp2_with fail
    generalize (w.alloc (.cells #[.string ⟨#[]⟩, .string ⟨#[]⟩] 28)) = w1 at *
    obtain ⟨g, hgg⟩ : ∃ g, g = w.heap.size := ⟨_, rfl⟩
    rw [← hgg] at B0 ⊢
    have HGW := hid (show w.heap.size ≤ g by omega)
    clear hgg
    refine (K.out w1).mono ?_
    rintro e w2 ⟨rfl, t2⟩
    clear K
    have T2 := hid t2
    clear t2
    go_wp2_with fail
    rw [HT.out]
    refine (KC.out w2).mono ?_
    rintro e w3 ⟨rfl, t3⟩
    clear KC
    have T3 := hid (T2.out.trans t3 (fun _ _ e => e))
    clear t3 T2
    have G0 := hid ((T3.out.block g (lt_of_block B0.out) id).trans B0.out)
    have f0 : w3.frozen? ⟨g, 0, none⟩ = false := free_two G0.out
    have f1 : w3.frozen? ⟨g, 1, none⟩ = false := free_two G0.out
    have c0 : w3.cell? ⟨g, 0, none⟩ = some (.string ⟨#[]⟩) := cell_two0 G0.out
    have c1 : w3.cell? ⟨g, 1, none⟩ = some (.string ⟨#[]⟩) := cell_two1 G0.out
    have TE := hid (TA.out.trans T3.out (fun _ _ e => e))
    unfold cutV
    cases hi : idxOf 61 t.data.toList with
    | none =>
      rw [hi] at HR
      have HN := hid (show rec1 s.data.toList = none from HR.out)
      dsimp only
      clear hi
      go_wp2
      refine bodyPost_ret (results_ct rfl _ _ g 28 _ (0, 0) _ rfl (two_set G0.out _ _) Tryd.underlying28 rfl (by kernel_rfl)) rfl ?_
      exact ⟨by rw [HX.out, frV_none HN.out]; rfl, two_touch TE.out HGW.out _ _⟩
    | some i =>
      rw [hi] at HR
      cases i with
      | zero =>
        have HN := hid (show rec1 s.data.toList = none from HR.out)
        have he : t.extract 0 0 = ⟨#[]⟩ := by rw [ext_ba]; rfl
        dsimp only
        rw [he]
        clear hi
        go_wp2
        refine bodyPost_ret (results_ct rfl _ _ g 28 _ (0, 0) _ rfl (two_set G0.out _ _) Tryd.underlying28 rfl (by kernel_rfl)) rfl ?_
        exact ⟨by rw [HX.out, frV_none HN.out]; rfl, two_touch TE.out HGW.out _ _⟩
      | succ i =>
        have hlt2 := idx_lt hi
        have htl : t.data.toList.length = t.size := by rw [Array.length_toList]; rfl
        have HN := hid (show rec1 s.data.toList = some (t.data.toList.take (i + 1), t.data.toList.drop (i + 2)) from HR.out)
        have e1 : t.extract 0 (i + 1) = ⟨(t.data.toList.take (i + 1)).toArray⟩ := by rw [ext_ba]; rfl
        have e2 : t.extract (i + 1 + 1) t.size = ⟨(t.data.toList.drop (i + 2)).toArray⟩ := by
          rw [ext_ba, List.take_of_length_le (by rw [List.length_drop]; omega)]
        have hne : (t.extract 0 (i + 1)).toList.isEmpty = false := list_ne (by rw [ByteArray.size_extract]; omega)
        have HE1 := hid e1
        have HE2 := hid e2
        obtain ⟨ka, hka⟩ : ∃ ka, ka = t.extract 0 (i + 1) := ⟨_, rfl⟩
        obtain ⟨va, hva⟩ : ∃ va, va = t.extract (i + 1 + 1) t.size := ⟨_, rfl⟩
        dsimp only
        rw [← hka, ← hva]
        rw [← hka] at hne HE1
        rw [← hva] at HE2
        have hne2 : ¬ ka.toList = [] := fun e => by rw [e] at hne; exact absurd hne (by decide)
        clear hi hlt2 htl e1 e2 hka hva
        go_wp2
        refine bodyPost_ret (results_ct rfl _ _ g 28 _ (0, 0) _ rfl (two_set G0.out _ _) Tryd.underlying28 rfl (by kernel_rfl)) rfl ?_
        exact ⟨by rw [HX.out, frV_some HN.out, HSZ.out, ← HE1.out, ← HE2.out]; rfl, two_touch TE.out HGW.out _ _⟩
  · have HN := hid (show rec1 s.data.toList = none from if_neg hg)
    have HG := hid hg
    have HL := hid hsl
    have hle := dAh_le s.data.toList
    rw [hsl] at hle
    by_cases hr : 1 ≤ dAh s.data.toList ∧ dAh s.data.toList ≤ 9 ∧ s.data.toList[0]? ≠ some 48
    · have e : recSz s.data.toList = (szOf s.data.toList, dAh s.data.toList) := if_pos hr
      rw [e] at K
      dsimp only at K
      have hlt := sz_lt s.data.toList hr.2.1
      have HGG := hid (show ∀ sz n, sz = szOf s.data.toList → n = dAh s.data.toList → ¬ (n + 2 ≤ sz ∧ sz ≤ s.size ∧ s.data.toList[n]? = some 32 ∧ s.data.toList[sz - 1]? = some 10) from by
        rintro sz n rfl rfl ⟨a1, a2, a3, a4⟩
        exact hg ⟨hr.1, hr.2.1, hr.2.2, a1, by rw [hsl]; exact a2, a3, a4⟩)
      obtain ⟨sz, hsz⟩ : ∃ sz, sz = szOf s.data.toList := ⟨_, rfl⟩
      obtain ⟨n, hn⟩ : ∃ n, n = dAh s.data.toList := ⟨_, rfl⟩
      have HGQ := hid (HGG.out sz n hsz hn)
      rw [← hsz] at K hlt
      rw [← hn] at K hle hr
      have hr9 := hr.2.1
      clear HGG hsz hn hr e hsl hg
      go_enter Tryd.func11, Tryd.ntmps11
      go_wp2_with fail
      generalize (w.alloc (.cells #[.string ⟨#[]⟩, .string ⟨#[]⟩] 28)) = w1 at *
      obtain ⟨g, hgg⟩ : ∃ g, g = w.heap.size := ⟨_, rfl⟩
      rw [← hgg] at B0 ⊢
      have HGW := hid (show w.heap.size ≤ g by omega)
      clear hgg
      refine (K.out w1).mono ?_
      rintro e w3 ⟨rfl, t3⟩
      clear K
      have T3 := hid t3
      clear t3
      have G0 := hid ((T3.out.block g (lt_of_block B0.out) id).trans B0.out)
      have f0 : w3.frozen? ⟨g, 0, none⟩ = false := free_two G0.out
      have f1 : w3.frozen? ⟨g, 1, none⟩ = false := free_two G0.out
      have c0 : w3.cell? ⟨g, 0, none⟩ = some (.string ⟨#[]⟩) := cell_two0 G0.out
      have c1 : w3.cell? ⟨g, 1, none⟩ = some (.string ⟨#[]⟩) := cell_two1 G0.out
      have TE := hid (TA.out.trans T3.out (fun _ _ e => e))
      by_cases c1 : (sz : Int) < (n : Int) + 2
      · go_wp2
        refine bodyPost_ret (results_ct rfl _ _ g 28 _ (0, 0) _ rfl (two_set G0.out _ _) Tryd.underlying28 rfl (by kernel_rfl)) rfl ?_
        exact ⟨by rw [HX.out, frV_none HN.out]; rfl, two_touch TE.out HGW.out _ _⟩
      · by_cases c2 : (s.size : Int) < (sz : Int)
        · go_wp2
          refine bodyPost_ret (results_ct rfl _ _ g 28 _ (0, 0) _ rfl (two_set G0.out _ _) Tryd.underlying28 rfl (by kernel_rfl)) rfl ?_
          exact ⟨by rw [HX.out, frV_none HN.out]; rfl, two_touch TE.out HGW.out _ _⟩
        · have hnS : n < s.size := by omega
          have hzS : sz - 1 < s.size := by omega
          have hi1 : (n : Int) < (s.size : Int) := by omega
          have hi2 : (sz : Int) - 1 < (s.size : Int) := by omega
          have hi5 : (0 : Int) ≤ (sz : Int) - 1 := by omega
          have hn1 : ((sz : Int) - 1).toNat = sz - 1 := by omega
          by_cases c3 : (s[n].toNat : Int) = 32
          · have c4 : ¬ (s[sz - 1].toNat : Int) = 10 := fun e => HGQ.out ⟨by omega, by omega, by rw [HAT.out n hnS]; exact congrArg some (UInt8.toNat_inj.1 (by show _ = 32; omega)), by rw [HAT.out _ hzS]; exact congrArg some (UInt8.toNat_inj.1 (by show _ = 10; omega))⟩
            have c4B : ((s[sz - 1].toNat : Int) != 10) = true := by simpa using c4
            go_wp2
            refine bodyPost_ret (results_ct rfl _ _ g 28 _ (0, 0) _ rfl (two_set G0.out _ _) Tryd.underlying28 rfl (by kernel_rfl)) rfl ?_
            exact ⟨by rw [HX.out, frV_none HN.out]; rfl, two_touch TE.out HGW.out _ _⟩
          · have c3B : ((s[n].toNat : Int) != 32) = true := by simpa using c3
            go_wp2
            refine bodyPost_ret (results_ct rfl _ _ g 28 _ (0, 0) _ rfl (two_set G0.out _ _) Tryd.underlying28 rfl (by kernel_rfl)) rfl ?_
            exact ⟨by rw [HX.out, frV_none HN.out]; rfl, two_touch TE.out HGW.out _ _⟩
    · have e : recSz s.data.toList = (0, 0) := if_neg hr
      rw [e] at K
      dsimp only at K
      clear e hr HG hg hle hsl
      go_enter Tryd.func11, Tryd.ntmps11
      go_wp2_with fail
      generalize (w.alloc (.cells #[.string ⟨#[]⟩, .string ⟨#[]⟩] 28)) = w1 at *
      obtain ⟨g, hgg⟩ : ∃ g, g = w.heap.size := ⟨_, rfl⟩
      rw [← hgg] at B0 ⊢
      have HGW := hid (show w.heap.size ≤ g by omega)
      clear hgg
      refine (K.out w1).mono ?_
      rintro e w3 ⟨rfl, t3⟩
      clear K
      have T3 := hid t3
      clear t3
      have G0 := hid ((T3.out.block g (lt_of_block B0.out) id).trans B0.out)
      have f0 : w3.frozen? ⟨g, 0, none⟩ = false := free_two G0.out
      have f1 : w3.frozen? ⟨g, 1, none⟩ = false := free_two G0.out
      have c0 : w3.cell? ⟨g, 0, none⟩ = some (.string ⟨#[]⟩) := cell_two0 G0.out
      have c1 : w3.cell? ⟨g, 1, none⟩ = some (.string ⟨#[]⟩) := cell_two1 G0.out
      have TE := hid (TA.out.trans T3.out (fun _ _ e => e))
      go_wp2
      refine bodyPost_ret (results_ct rfl _ _ g 28 _ (0, 0) _ rfl (two_set G0.out _ _) Tryd.underlying28 rfl (by kernel_rfl)) rfl ?_
      exact ⟨by rw [HX.out, frV_none HN.out]; rfl, two_touch TE.out HGW.out _ _⟩
end Go.Proofs.YtdchbbegbijjgaaDoor

/- Lists of pairs of texts, and Records; condition: the text is of at most 2097152 bytes. -/
namespace Go.Proofs.YtdchbbegbijjgaaDoor
open Go.RowKit
open Go.Lib

theorem info28 : (Tryd.prog.info? 28).map (fun i => (i.zero, i.size, i.bytes)) = some (some (.agg #[.string ⟨#[]⟩, .string ⟨#[]⟩]), 2, 32) := by kernel_rfl
abbrev R2 := List UInt8 × List UInt8
def sv (l : List UInt8) : Value := .string ⟨l.toArray⟩
def encR (x : R2) : List Value := [sv x.1, sv x.2]
def flatR (l : List R2) : List Value := l.flatMap encR
theorem flatR_append (l m : List R2) : flatR (l ++ m) = flatR l ++ flatR m := by simp [flatR]
theorem length_flatR (l : List R2) : (flatR l).length = l.length * 2 := by
  induction l with
  | nil => rfl
  | cons x r ih => simp only [flatR, List.flatMap_cons, List.length_append, List.length_cons] at ih ⊢; rw [ih]; simp [encR]; omega
theorem flatR_get0 : ∀ (l : List R2) (i : Nat) (h : i < l.length), (flatR l)[2 * i]? = some (sv (l[i]).1)
  | x :: r, 0, _ => rfl
  | x :: r, i + 1, h => by
    have := flatR_get0 r i (by simpa using h)
    show (encR x ++ flatR r)[2 * (i + 1)]? = _
    rw [List.getElem?_append_right (by simp [encR]; omega)]
    simpa [encR, show 2 * (i + 1) - 2 = 2 * i by omega] using this
theorem flatR_get1 : ∀ (l : List R2) (i : Nat) (h : i < l.length), (flatR l)[2 * i + 1]? = some (sv (l[i]).2)
  | x :: r, 0, _ => rfl
  | x :: r, i + 1, h => by
    have := flatR_get1 r i (by simpa using h)
    show (encR x ++ flatR r)[2 * (i + 1) + 1]? = _
    rw [List.getElem?_append_right (by simp [encR]; omega)]
    simpa [encR, show 2 * (i + 1) + 1 - 2 = 2 * i + 1 by omega] using this
theorem flatR_one (l : List R2) : ∀ u ∈ flatR l, u.oneCell' = true := by
  intro u hu
  simp only [flatR, List.mem_flatMap, encR] at hu
  obtain ⟨x, _, hx⟩ := hu
  simp at hx
  rcases hx with rfl | rfl <;> rfl

theorem add_g (g j : Nat) : (⟨g, 0, none⟩ : Addr).add j = ⟨g, j, none⟩ := by
  unfold Addr.add
  split
  · rename_i h; rw [h]
  · rw [Nat.zero_add]

/-- A list of ranges in memory, as a walk is told of it. -/
def Rg (w : World) (a : Option Addr) (l : List R2) : Prop :=
  l = [] ∨ ∃ b o, a = some ⟨b, o, none⟩ ∧ b < w.heap.size ∧ ∀ i (h : i < l.length), w.cell? ⟨b, o + i * 2, none⟩ = some (sv (l[i]).1) ∧ w.cell? ⟨b, o + i * 2 + 1, none⟩ = some (sv (l[i]).2)

theorem Rg.kept {w w' : World} {S : Nat → Prop} {a : Option Addr} {l : List R2} (h : Rg w a l) (t : Touch S w w') (hs : ∀ b o, a = some ⟨b, o, none⟩ → b < w.heap.size → ¬ S b) : Rg w' a l := by
  rcases h with h | ⟨b, o, rfl, hb, hc⟩
  · exact .inl h
  · refine .inr ⟨b, o, rfl, Nat.lt_of_lt_of_le hb t.size, fun i hi => ?_⟩
    rw [t.cell (p := ⟨b, o + i * 2, none⟩) hb (hs b o rfl hb), t.cell (p := ⟨b, o + i * 2 + 1, none⟩) hb (hs b o rfl hb)]
    exact hc i hi
theorem Rg.new {w w' : World} {a : Option Addr} {l : List R2} (h : Rg w a l) (t : Touch (fun _ => False) w w') : Rg w' a l := h.kept t (fun _ _ _ _ e => e)
theorem own_rg {w : World} {base e : Nat} {v : Value} {l : List R2} (h : w.ownsRow base e 2 v l.length (flatR l)) : ∃ a c, v = .slice a l.length c ∧ Rg w a l := by
  rcases h.2 with ⟨rfl, h0⟩ | ⟨g, cap, cur, rfl, hg, hh, rest⟩
  · exact ⟨none, 0, by rw [h0], .inl (List.eq_nil_of_length_eq_zero h0)⟩
  · refine ⟨_, cap, rfl, .inr ⟨g, 0, rfl, lt_of_block hh, fun i hi => ?_⟩⟩
    have h1 := h.cells (g := g) rfl (2 * i) _ (flatR_get0 l i hi)
    have h2 := h.cells (g := g) rfl (2 * i + 1) _ (flatR_get1 l i hi)
    rw [add_g] at h1 h2
    rw [show 0 + i * 2 = 2 * i by omega]
    exact ⟨h1, h2⟩
theorem row_new (w : World) (l : List Value) (t : TypeId) : ∀ (j : Nat) (u : Value), l[j]? = some u → (w.alloc (.cells l.toArray t)).cell? ((⟨w.heap.size, 0, none⟩ : Addr).add j) = some u := by
  intro j u hj
  have hb : (w.alloc (.cells l.toArray t)).heap[w.heap.size]? = some (.cells l.toArray t (0, 0)) := by
    show (w.heap.push _)[_]? = _
    simp
  rw [add_g]
  unfold World.cell?
  rw [hb]
  simpa using hj

structure OwE (W0 wr : World) (e : TypeId) (v : Value) (s : List R2) : Prop where
  own : wr.ownsRow 0 e 2 v s.length (flatR s)
  new : ∀ g, v.ownBlock = some g → W0.heap.size ≤ g
  touch : Touch (fun _ => False) W0 wr

theorem OwE.nil (w : World) (e : TypeId) : OwE w w e (.slice none 0 0) [] := ⟨by simpa [flatR] using World.ownsRow_nil _ _ _ _, by intro g h; simp [Value.ownBlock] at h, Touch.refl _ _⟩
theorem OwE.rg {W0 wr : World} {e : TypeId} {v : Value} {s : List R2} (h : OwE W0 wr e v s) : ∃ a c, v = .slice a s.length c ∧ Rg wr a s := own_rg h.own
theorem OwE.still {W0 wr w' : World} {e : TypeId} {v : Value} {s : List R2} (h : OwE W0 wr e v s) (tc : Touch (fun _ => False) wr w') : OwE W0 w' e v s := by
  refine ⟨⟨h.own.1, ?_⟩, h.new, h.touch.trans tc (fun _ _ e => e)⟩
  rcases h.own.2 with h0 | ⟨g, cap, cur, hv, hg, hh, rest⟩
  · exact .inl h0
  · exact .inr ⟨g, cap, cur, hv, hg, (tc.block g (lt_of_block hh) id).trans hh, rest⟩
theorem OwE.more {W0 wr w1 : World} {e : TypeId} {v v' : Value} {s : List R2} {xs : List R2} {o : Obj} (h : OwE W0 wr e v s) (hown : w1.ownsRow 0 e 2 v' (s.length + xs.length) (flatR s ++ flatR xs)) (hg : (wr.alloc o).grownBy w1 v.ownBlock) (hat : v'.ownBlock = v.ownBlock ∨ v'.ownBlock = some (wr.heap.size + 1)) : OwE W0 w1 e v' (s ++ xs) := by
  refine ⟨?_, fun g hg' => ?_, (h.touch.alloc o).grown hg (fun k e hk => by have := h.new k e; omega)⟩
  · rw [List.length_append, flatR_append]
    exact hown
  · rcases hat with e | e
    · exact h.new g (by rw [← e]; exact hg')
    · rw [e] at hg'
      simp at hg'
      have := h.touch.size
      omega

end Go.Proofs.YtdchbbegbijjgaaDoor

/- Records, of any text of at most 2097152 bytes. -/
namespace Go.Proofs.YtdchbbegbijjgaaDoor
open Go.RowKit
open Go.Lib

/-- The records of a text. -/
def recs (cs : List UInt8) : Option (List R2) := recsF cs.length cs
theorem rec1_sz {cs : List UInt8} {r : R2} (h : rec1 cs = some r) : 1 ≤ szOf cs ∧ szOf cs ≤ cs.length ∧ szOf cs < 1000000000 := by
  unfold rec1 at h
  by_cases hg : Good cs
  · obtain ⟨g1, g2, g3, g4, g5, g6, g7⟩ := hg
    exact ⟨by omega, g5, sz_lt cs g2⟩
  · rw [if_neg hg] at h; cases h
theorem recsF_more {g : Nat} {cs : List UInt8} {r : R2} (h : rec1 cs = some r) (hne : cs ≠ []) : recsF (g + 1) cs = (recsF g (cs.drop (szOf cs))).map (r :: ·) := by
  cases cs with
  | nil => exact absurd rfl hne
  | cons c cs => rw [recsF, h]
theorem recsF_none {g : Nat} {cs : List UInt8} (h : rec1 cs = none) (hne : cs ≠ []) : recsF (g + 1) cs = none := by
  cases cs with
  | nil => exact absurd rfl hne
  | cons c cs => rw [recsF, h]
theorem recsF_nil (g : Nat) : recsF g [] = some [] := by cases g <;> rfl

set_option maxRecDepth 100000 in
set_option maxHeartbeats 4000000 in
theorem records_any (s : ByteArray) (hs : s.size ≤ 2097152) (w : World) :
    Calls Tryd.prog 7 #[.string s] w fun e w' => ∃ v, e = .returned (.tuple #[v, .bool (recs s.data.toList).isSome]) ∧ OwE w w' 28 v ((recs s.data.toList).getD []) := by
  obtain ⟨i0, hi, hz0, hz1, hz2⟩ := info_parts info28
  obtain ⟨X, hX⟩ : ∃ X, X = recs s.data.toList := ⟨_, rfl⟩
  have HX := hid (show recsF s.size s.data.toList = X by rw [hX]; unfold recs; rw [Array.length_toList]; rfl)
  rw [← hX]
  clear hX
  obtain ⟨n, hn⟩ : ∃ n, n = s.size := ⟨_, rfl⟩
  rw [← hn] at HX hs
  have hsn : s.size ≤ n := by omega
  clear hn
  go_enter Tryd.func7, Tryd.ntmps7
  go_wp2_with fail
  go_loopg [0, 4] n (fun gk v0 v wr => ∃ (d : ByteArray) (o : List R2), d.size ≤ gk ∧ o.length + gk ≤ n ∧ v0 = .string d ∧ Hid ((recsF gk d.data.toList).map (o ++ ·) = X) ∧ OwE w wr 28 v o)
  case atStart => exact ⟨s, [], hsn, by simp, rfl, hid (by rw [HX.out]; cases X <;> rfl), OwE.nil _ _⟩
  case round =>
    obtain ⟨d, o, hdg, hol, rfl, HO, hown⟩ := hrel
    have OW := hid hown
    obtain ⟨a4, c4, hv4⟩ := own_shape hown.own
    subst hv4
    clear hown
    by_cases hd0 : 0 < d.size
    · have hne := list_ne hd0
      have hne2 : ¬ d.toList = [] := fun e => by rw [e] at hne; exact absurd hne (by decide)
      have hne3 : d.data.toList ≠ [] := by rw [← toList_data]; exact hne2
      obtain ⟨G, rfl⟩ : ∃ G, gk = G + 1 := ⟨gk - 1, by omega⟩
      have K := hid (firstRecord_any d (by omega) wr)
      have hdl : d.data.toList.length = d.size := by rw [Array.length_toList]; rfl
      cases hr : rec1 d.data.toList with
      | none =>
        rw [frV_none hr] at K
        rw [recsF_none hr hne3] at HO
        clear hr hne3 hdl
        go_wp2_with fail
        refine K.out.mono ?_
        rintro e w2 ⟨rfl, t2⟩
        clear K
        have HX2 := hid (show X = none from HO.out.symm)
        have TT := hid ((OW.out.touch.trans t2 (fun _ _ e => e)).alloc (.cells #[.string ⟨#[]⟩, .string ⟨#[]⟩] 28))
        clear HO t2
        go_wp2
        refine bodyPost_ret (results_tmp2 rfl _ _ _) rfl ?_
        exact ⟨_, by rw [HX2.out]; rfl, by rw [HX2.out]; exact (OwE.nil _ _).still TT.out⟩
      | some r =>
        obtain ⟨k, v⟩ := r
        have hb := rec1_sz hr
        rw [frV_some hr] at K
        rw [recsF_more hr hne3] at HO
        rw [hdl] at hb
        obtain ⟨sz, hsz⟩ : ∃ sz, sz = szOf d.data.toList := ⟨_, rfl⟩
        rw [← hsz] at hb K HO
        clear hr hne3 hdl hsz
        go_wp2_with fail
        refine K.out.mono ?_
        rintro e w2 ⟨rfl, t2⟩
        clear K
        have OW2 := hid (OW.out.still t2)
        clear t2 OW
        have hz : ¬ (sz : Int) = 0 := by omega
        have hzB : ((sz : Int) == 0) = false := by simpa using hz
        go_upto_region 6 with fail
        have B0 := hid (block_new w2 #[sv k, sv v] 28)
        have OW3 := hid (OW2.out.still ((Touch.refl _ _).alloc (.cells #[sv k, sv v] 28)))
        obtain ⟨wA, hwA⟩ : ∃ wA, wA = w2.alloc (.cells #[sv k, sv v] 28) := ⟨_, rfl⟩
        obtain ⟨q, hq⟩ : ∃ q, q = w2.heap.size := ⟨_, rfl⟩
        change Code.wp _ _ _ _ (w2.alloc (.cells #[sv k, sv v] 28))
        rw [← hwA, ← hq] at B0
        rw [← hwA] at OW3 ⊢
        rw [← hq]
        clear hwA hq OW2
        have c0 : wA.cell? ⟨q, 0, none⟩ = some (sv k) := cell_two0 B0.out
        have c1 : wA.cell? ⟨q, 1, none⟩ = some (sv v) := cell_two1 B0.out
        have hi1 : (sz : Int) ≤ (d.size : Int) := by omega
        go_wp2_with (at_builtin; refine wpList_append_own_at _ rfl _ _ 25 rfl 0 28 i0 (.agg #[.string ⟨#[]⟩, .string ⟨#[]⟩]) 2 32 Tryd.underlying25 hi hz0 hz1 hz2 rfl (by decide) _ _ _ rfl (OW3.out.own.alloc _) ⟨wA.heap.size, 0, none⟩ 1 1 [sv k, sv v] rfl rfl (row_new wA [sv k, sv v] 28) (by intro u hu; simp at hu; rcases hu with rfl | rfl <;> rfl) (by unfold maxLen; omega) (by omega) (Nat.zero_le _) ?_)
        intro v4' w4 hown hgrow _ hat
        have P4 := hid (OW3.out.more (xs := [(k, v)]) hown hgrow hat)
        clear hown hgrow hat
        go_wp2
        go_roundg G
        case measure => omega
        case rel =>
          refine ⟨d.extract sz d.size, o ++ [(k, v)], by rw [ByteArray.size_extract]; omega, by simp; omega, rfl, hid ?_, P4.out⟩
          have := HO.out
          rw [ext_list, List.take_of_length_le (by rw [List.length_drop, Array.length_toList]; exact Nat.le_refl _)]
          rw [← this, Option.map_map]
          congr 1
          funext x
          simp
    · have h0 : d.data.toList = [] := List.eq_nil_of_length_eq_zero (by rw [Array.length_toList]; show d.size = 0; omega)
      have hne2 : d.toList = [] := by rw [toList_data]; exact h0
      have hne : d.toList.isEmpty = true := by rw [hne2]; rfl
      rw [h0, recsF_nil] at HO
      have HX2 := hid (show X = some o by rw [← HO.out]; simp)
      clear h0 HO
      go_wp2
      refine bodyPost_ret (results_tmp2 rfl _ _ _) rfl ?_
      exact ⟨_, by rw [HX2.out]; rfl, by rw [HX2.out]; exact OW.out⟩
end Go.Proofs.YtdchbbegbijjgaaDoor

/- What the document asks of a record, plain; no condition. -/
namespace Go.Proofs.YtdchbbegbijjgaaDoor
open Go.RowKit
open Go.Lib

theorem dig_32 {c : UInt8} (h : digB c = true) : c ≠ 32 := by
  rintro rfl
  exact absurd h (by decide)
theorem idx_dAh : ∀ cs : List UInt8, cs[dAh cs]? = some 32 → idxOf 32 cs = some (dAh cs)
  | [], h => by cases h
  | c :: cs, h => by
    rw [dAh] at h ⊢
    by_cases hd : digB c = true
    · rw [if_pos hd] at h ⊢
      rw [List.getElem?_cons_succ] at h
      rw [idxOf, if_neg (dig_32 hd), idx_dAh cs h]
      rfl
    · rw [if_neg hd] at h ⊢
      simp only [List.getElem?_cons_zero, Option.some.injEq] at h
      rw [idxOf, if_pos h]
theorem dAh_all : ∀ (cs : List UInt8) (i : Nat), idxOf 32 cs = some i → (∀ c ∈ cs.take i, digB c = true) → dAh cs = i ∧ cs[i]? = some 32
  | [], _, h, _ => by cases h
  | c :: cs, i, h, ha => by
    rw [idxOf] at h
    by_cases hc : c = 32
    · rw [if_pos hc] at h
      cases h
      subst hc
      exact ⟨rfl, rfl⟩
    · rw [if_neg hc] at h
      obtain ⟨j, hj, rfl⟩ := Option.map_eq_some_iff.1 h
      rw [List.take_succ_cons] at ha
      have hd := ha c (by simp)
      obtain ⟨e1, e2⟩ := dAh_all cs j hj (fun x hx => ha x (by simp [hx]))
      exact ⟨by rw [dAh, if_pos hd, e1], by rw [List.getElem?_cons_succ]; exact e2⟩
theorem digits_yes {cs : List UInt8} (h : 1 ≤ dAh cs ∧ dAh cs ≤ 9) : digitsV (cs.take (dAh cs)) = (szOf cs, true) := by
  have hl := dAh_le cs
  unfold digitsV
  rw [if_pos ⟨by rw [List.length_take]; omega, by rw [List.length_take]; omega, List.all_eq_true.2 (dAh_dig cs)⟩]
  rfl
theorem digits_tell {cs : List UInt8} {i n : Nat} (hi : idxOf 32 cs = some i) (h : digitsV (cs.take i) = (n, true)) : dAh cs = i ∧ szOf cs = n ∧ cs[i]? = some 32 ∧ 1 ≤ i ∧ i ≤ 9 := by
  have hl := idx_lt hi
  unfold digitsV at h
  by_cases hc : 1 ≤ (cs.take i).length ∧ (cs.take i).length ≤ 9 ∧ (cs.take i).all digB = true
  · rw [if_pos hc] at h
    obtain ⟨e1, e2⟩ := dAh_all cs i hi (List.all_eq_true.1 hc.2.2)
    rw [List.length_take] at hc
    refine ⟨e1, ?_, e2, by omega, by omega⟩
    unfold szOf
    rw [e1]
    exact (Prod.mk.inj h).1
  · rw [if_neg hc] at h
    cases h
theorem pair_some {f : List UInt8} {x : Option Nat} {r : List UInt8 × List UInt8} (h : pairAt f x = some r) : ∃ i, x = some (i + 1) ∧ r = (f.take (i + 1), f.drop (i + 2)) := by
  unfold pairAt at h
  split at h
  · exact ⟨_, rfl, (Option.some.inj h).symm⟩
  · cases h
theorem pair_none {f : List UInt8} {x : Option Nat} (h : pairAt f x = none) : x = none ∨ x = some 0 := by
  unfold pairAt at h
  split at h
  · cases h
  · rename_i hx
    cases x with
    | none => exact .inl rfl
    | some i => cases i with
      | zero => exact .inr rfl
      | succ i => exact absurd rfl (hx i)
theorem inner_len {cs : List UInt8} (h : Good cs) : (inner cs).length = szOf cs - 1 - (dAh cs + 1) := by
  obtain ⟨g1, g2, g3, g4, g5, g6, g7⟩ := h
  unfold inner
  rw [List.length_take, List.length_drop]
  omega
/-- What a record that stands there tells. -/
theorem rec_tells {cs : List UInt8} {r : List UInt8 × List UInt8} (h : rec1 cs = some r) : Good cs ∧ dAh cs + 4 ≤ szOf cs ∧ ∃ i, idxOf 61 (inner cs) = some (i + 1) ∧ r = ((inner cs).take (i + 1), (inner cs).drop (i + 2)) := by
  unfold rec1 at h
  by_cases hg : Good cs
  · rw [if_pos hg] at h
    obtain ⟨i, hi, hr⟩ := pair_some h
    have := idx_lt hi
    rw [inner_len hg] at this
    exact ⟨hg, by omega, i, hi, hr⟩
  · rw [if_neg hg] at h; cases h
/-- Where none stands, and all is well up to the text inside. -/
theorem rec_none {cs : List UInt8} (h : rec1 cs = none) (hg : Good cs) : idxOf 61 (inner cs) = none ∨ idxOf 61 (inner cs) = some 0 := by
  unfold rec1 at h
  rw [if_pos hg] at h
  exact pair_none h
end Go.Proofs.YtdchbbegbijjgaaDoor
