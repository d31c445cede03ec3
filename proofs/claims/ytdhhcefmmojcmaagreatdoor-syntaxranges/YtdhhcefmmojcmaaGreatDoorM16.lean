/- Texts of this proof, one behind the other: what each says stands ahead of it. -/
import Derived.Test.YtdhhcefmmojcmaaGreatDoorM14
import Derived.Test.YtdhhcefmmojcmaaGreatDoorM15
import Derived.Test.YtdhhcefmmojcmaaGreatDoorM5
import Derived.Deep.RegionHeld3
import Derived.OwnWalk
import Derived.Laws.IdiomStrings
/- A parser of patterns: a class by its name; conditions: as told. -/
namespace Go.Proofs.YtdhhcefmmojcmaaGreatDoor
open Go.RowKit
open Go.Lib

theorem lookup_table : tableN.all (fun p => decide (lookupN p.1 tableN = some p.2)) = true := by decide
theorem lookup_mem {s : ByteArray} {l : List R2} : ∀ {t : List (ByteArray × List R2)}, lookupN s t = some l → ∃ p ∈ t, p.1 = s
  | [], h => by cases h
  | (n, m) :: t, h => by
    rw [lookupN] at h
    split at h
    · rename_i e
      exact ⟨(n, m), by simp, e.symm⟩
    · obtain ⟨p, hp, e⟩ := lookup_mem h
      exact ⟨p, by simp [hp], e⟩
theorem lookup_none {s : ByteArray} (h : NoName s) : lookupN s tableN = none := by
  cases hl : lookupN s tableN with
  | none => rfl
  | some l =>
    obtain ⟨p, hp, e⟩ := lookup_mem hl
    subst e
    obtain ⟨n0, n1, n2, n3, n4, n5, n6, n7, n8, n9, n10, n11, n12, n13, n14, n15, n16, n17⟩ := h
    simp only [Lib.toList_data] at n0 n1 n2 n3 n4 n5 n6 n7 n8 n9 n10 n11 n12 n13 n14 n15 n16 n17
    simp only [tableN, List.mem_cons, List.not_mem_nil, or_false] at hp
    rcases hp with rfl | rfl | rfl | rfl | rfl | rfl | rfl | rfl | rfl | rfl | rfl | rfl | rfl | rfl | rfl | rfl | rfl | rfl
    · exact absurd n0 (by decide)
    · exact absurd n1 (by decide)
    · exact absurd n2 (by decide)
    · exact absurd n3 (by decide)
    · exact absurd n4 (by decide)
    · exact absurd n5 (by decide)
    · exact absurd n6 (by decide)
    · exact absurd n7 (by decide)
    · exact absurd n8 (by decide)
    · exact absurd n9 (by decide)
    · exact absurd n10 (by decide)
    · exact absurd n11 (by decide)
    · exact absurd n12 (by decide)
    · exact absurd n13 (by decide)
    · exact absurd n14 (by decide)
    · exact absurd n15 (by decide)
    · exact absurd n16 (by decide)
    · exact absurd n17 (by decide)
/-- What Class answers. -/
def ClsP (w : World) : Option (List R2) → Ending → World → Prop
  | some l, e, w' => ∃ v, e = .returned (.tuple #[v, .bool true]) ∧ OwE w w' 60 v (cnR l)
  | none, e, w' => ∃ v l, e = .returned (.tuple #[v, .bool false]) ∧ OwE w w' 60 v l
theorem class_lk (s : ByteArray) (w : World) : Calls Tryz.prog 152 #[.string s] w fun e w' => ClsP w (lookupN s tableN) e w' := by
  rcases name_cases s with ⟨p, hp, rfl⟩ | h
  · have h1 := of_decide_eq_true (List.all_eq_true.1 lookup_table p hp)
    rw [h1]
    have fit : ∀ {l : List R2} {e : Ending} {w' : World}, (∃ v n, e = .returned (.tuple #[v, .bool true]) ∧ Canon n ∧ (∀ x, In x n ↔ (0 ≤ x ∧ x ≤ 1114111) ∧ In x l) ∧ OwE w w' 60 v n) → ClsP w (some l) e w' := fun ⟨v, n, g1, g2, g3, g4⟩ => ⟨v, g1, by rw [← cn_of g2 g3]; exact g4⟩
    clear h1
    simp only [tableN, List.mem_cons, List.not_mem_nil, or_false] at hp
    rcases hp with rfl | rfl | rfl | rfl | rfl | rfl | rfl | rfl | rfl | rfl | rfl | rfl | rfl | rfl | rfl | rfl | rfl | rfl
    · exact (class_any _ _ spans_Any (by decide) (by decide) w).mono (fun e w' h => fit h)
    · exact (class_any _ _ spans_Cyrillic (by decide) (by decide) w).mono (fun e w' h => fit h)
    · exact (class_any _ _ spans_Deseret (by decide) (by decide) w).mono (fun e w' h => fit h)
    · exact (class_any _ _ spans_Greek (by decide) (by decide) w).mono (fun e w' h => fit h)
    · exact (class_any _ _ spans_Han (by decide) (by decide) w).mono (fun e w' h => fit h)
    · exact (class_any _ _ spans_Hebrew (by decide) (by decide) w).mono (fun e w' h => fit h)
    · exact (class_any _ _ spans_Hiragana (by decide) (by decide) w).mono (fun e w' h => fit h)
    · exact (class_any _ _ spans_Katakana (by decide) (by decide) w).mono (fun e w' h => fit h)
    · exact (class_any _ _ spans_L (by decide) (by decide) w).mono (fun e w' h => fit h)
    · exact (class_any _ _ spans_Latin (by decide) (by decide) w).mono (fun e w' h => fit h)
    · exact (class_any _ _ spans_Ll (by decide) (by decide) w).mono (fun e w' h => fit h)
    · exact (class_any _ _ spans_Lo (by decide) (by decide) w).mono (fun e w' h => fit h)
    · exact (class_any _ _ spans_Lu (by decide) (by decide) w).mono (fun e w' h => fit h)
    · exact (class_any _ _ spans_N (by decide) (by decide) w).mono (fun e w' h => fit h)
    · exact (class_any _ _ spans_Nd (by decide) (by decide) w).mono (fun e w' h => fit h)
    · exact (class_any _ _ spans_P (by decide) (by decide) w).mono (fun e w' h => fit h)
    · exact (class_any _ _ spans_Pc (by decide) (by decide) w).mono (fun e w' h => fit h)
    · exact (class_any _ _ spans_Zs (by decide) (by decide) w).mono (fun e w' h => fit h)
  · rw [lookup_none h]
    exact (class_none s h w).mono (fun e w' ⟨v, n, g1, _, _, g4⟩ => ⟨v, n, g1, g4⟩)
/-- What answers a set. -/
def SetP (b : Nat) (X : Px) (f : Fl) (vn : Value) (ns : List ByteArray) (op : Nat) (w : World) : PR (List R2 × Nat) → Ending → World → Prop
  | .error (c, j), e, w' => e = thrown c (lkR X.P j) ∧ Touch (fun g => g = b) w w'
  | .ok (l, k1), e, w' => ∃ v, e = .returned v ∧ w'.ownsRow 0 60 2 v (cnR l).length (flatR (cnR l)) ∧ (∀ g, v.ownBlock = some g → w.heap.size ≤ g) ∧ PS w' b X k1 f vn ns op ∧ Touch (fun g => g = b) w w'
theorem not_cn2 (a : Option Addr) (cap : Nat) (m : List R2) (w : World) (hl : Rg w a (cnR m)) : Calls Tryz.prog 24 #[.slice a (cnR m).length cap] w fun e w' => ∃ v, e = .returned v ∧ OwE w w' 60 v (notR m) :=
  (not_says a cap (cnR m) w hl (cn_good m).1).mono (fun e w' ⟨v, n, g1, g2, g3, g4⟩ => ⟨v, g1, by rw [← not_cn m, ← not_of g2 g3]; exact g4⟩)
theorem cn_not (m : List R2) : cnR (notR m) = notR m := (cn_is (not_good2 m).1 (Eqv.refl _)).symm
theorem lt_aln (c : Int) (h : isAln c = true) : c < 128 := by
  simp only [isAln, isDig, isLet, Bool.or_eq_true, Bool.and_eq_true, decide_eq_true_eq] at h
  omega
end Go.Proofs.YtdhhcefmmojcmaaGreatDoor

/- A parser of patterns: named; conditions: as told. -/
namespace Go.Proofs.YtdhhcefmmojcmaaGreatDoor
open Go.RowKit
open Go.Lib

set_option maxRecDepth 100000 in
set_option maxHeartbeats 8000000 in
theorem named_any (b : Nat) (X : Px) (k0 k : Nat) (neg : Bool) (f : Fl) (vn : Value) (ns : List ByteArray) (op : Nat) (w : World) (h : PS w b X k f vn ns op) (hX : X.Good) (hk : k ≤ X.R.length) (hk0 : k0 ≤ X.R.length) :
    Calls Tryz.prog 142 #[.pointer (some ⟨b, 0, none⟩), .int .i64 (k0 : Nat), .bool neg] w fun e w' => SetP b X f vn ns op w (namedF X.R tableN k0 neg k) e w' := by
  have hmf : ∀ (fn : Fn) (first cap : Array Value) (w : World), (Instr.makeFunc fn first cap).run Tryz.prog w = .ok (.func fn first cap) w := fun _ _ _ _ => rfl
  have HRl := hid hX.lenR
  have hk2 : k ≤ 1024 := by have := HRl.out; omega
  obtain ⟨A, hA⟩ : ∃ A, A = namedF X.R tableN k0 neg k := ⟨_, rfl⟩
  have HA := hid hA.symm
  rw [← hA]
  unfold namedF at HA
  simp only at HA
  clear hA
  have HK := hid h
  have TK := hid (Touch.refl (fun g => g = b) w)
  have KW := hid (fun k1 w' hp => wrong_any b X k1 f vn ns op 24 k0 w' hp (by have := hX.lenP; omega))
  by_cases h123 : lkR X.R k = 123
  · rw [if_pos h123] at HA
    have hk3 : k + 1 ≤ X.R.length := lk_is h123 (by decide)
    obtain ⟨l, hl⟩ : ∃ l, runF X.R isAln X.R.length (k + 1) = l := ⟨_, rfl⟩
    have K2 := hid (fun a c w1 (hp : PS w1 b X (k + 1) f vn ns op) ho => run_word b X (k + 1) f vn ns op a c X.R.length (X.R.length : Int) rfl (cnR lAln) isAln w1 hp hX hk3 (by have := HRl.out; omega) ho (cn_good _).1 has_aln rfl lt_aln l hl)
    have hle := run_le (R := X.R) (p := isAln) rfl X.R.length (k + 1) hk3
    rw [hl] at HA hle
    have KC := hid (fun w' => class_lk (bytesI l) w')
    generalize bytesI l = S at *
    obtain ⟨k1, hk1⟩ : ∃ k1, k1 = k + 1 + l.length := ⟨_, rfl⟩
    rw [← hk1] at HA hle K2
    have hk4 : k1 ≤ 1024 := by have := HRl.out; omega
    clear h hX hk hk0 hk3 hl hle hk1
    generalize lookupN S tableN = L at *
    match L with
    | none =>
      simp only at HA
      go_enter Tryz.func142, Tryz.ntmps142
      go_wp2_with fail
      refine (took1_y 123 HK.out (by omega) h123).mono ?_
      rintro e ws1 ⟨rfl, hp, tt⟩
      replace HK := hid hp
      replace TK := hid (TK.out.trans tt (fun _ _ e => e))
      clear hp tt
      clear h123
      have c1 : ws1.drew.cell? ⟨b, 1, none⟩ = some (.slice X.ar X.R.length X.cr) := HK.out.c1
      go_wp2_with fail
      have Mk0 : True := trivial
      go_region_held3 (fun w' => w'.cell? ⟨b, 1, none⟩ = some (.slice X.ar X.R.length X.cr)) (first | exact c1 | exact c1b | exact c1c | exact HK.out.c1)
        (first
          | (clear Mk0; go_at_call 144; refine (letdig_any _).mono ?_; rintro e w1 ⟨v, rfl, o1⟩; obtain ⟨a1, ca1, hv, _⟩ := o1.slice; subst hv; have T1 := hid ((Touch.refl (fun _ => False) ws1).drew.trans o1.touch (fun _ _ e => e)); have c1b := (HK.out.new T1.out).c1; have K3 := hid (K2.out a1 ca1 w1 (HK.out.new T1.out) o1.own); clear o1 K2; have Mk1 : True := trivial)
          | (clear Mk1; go_at_call 137; refine K3.out.mono ?_; rintro e w2 ⟨rfl, hp2, t2⟩; replace HK := hid hp2; have c1c := HK.out.c1; replace TK := hid ((TK.out.trans T1.out (fun _ _ e => e.elim)).trans t2 (fun _ _ e => e)); clear hp2 t2 K3 T1))
      try clear c1
      go_wp2_with fail
      refine (KC.out _).mono ?_
      rintro e w3 ⟨v, lx, rfl, ow⟩
      obtain ⟨a3, c3, hv, _⟩ := ow.slice
      subst hv
      replace HK := hid (HK.out.new ow.touch)
      replace TK := hid (TK.out.trans ow.touch (fun _ _ e => e.elim))
      clear ow KC
      go_wp2_with fail
      refine (KW.out _ _ HK.out).mono ?_
      rintro e w9 ⟨rfl, t9⟩
      replace TK := hid (TK.out.trans t9 (fun _ _ e => e.elim))
      clear t9 KW
      go_wp2
      refine ⟨rfl, ?_⟩
      rw [← HA.out]
      exact ⟨rfl, TK.out⟩
    | some m =>
      simp only at HA
      by_cases h125 : lkR X.R k1 = 125
      · rw [if_pos h125] at HA
        clear KW
        go_enter Tryz.func142, Tryz.ntmps142
        go_wp2_with fail
        refine (took1_y 123 HK.out (by omega) h123).mono ?_
        rintro e ws1 ⟨rfl, hp, tt⟩
        replace HK := hid hp
        replace TK := hid (TK.out.trans tt (fun _ _ e => e))
        clear hp tt
        clear h123
        have c1 : ws1.drew.cell? ⟨b, 1, none⟩ = some (.slice X.ar X.R.length X.cr) := HK.out.c1
        go_wp2_with fail
        have Mk0 : True := trivial
        go_region_held3 (fun w' => w'.cell? ⟨b, 1, none⟩ = some (.slice X.ar X.R.length X.cr)) (first | exact c1 | exact c1b | exact c1c | exact HK.out.c1)
          (first
            | (clear Mk0; go_at_call 144; refine (letdig_any _).mono ?_; rintro e w1 ⟨v, rfl, o1⟩; obtain ⟨a1, ca1, hv, _⟩ := o1.slice; subst hv; have T1 := hid ((Touch.refl (fun _ => False) ws1).drew.trans o1.touch (fun _ _ e => e)); have c1b := (HK.out.new T1.out).c1; have K3 := hid (K2.out a1 ca1 w1 (HK.out.new T1.out) o1.own); clear o1 K2; have Mk1 : True := trivial)
            | (clear Mk1; go_at_call 137; refine K3.out.mono ?_; rintro e w2 ⟨rfl, hp2, t2⟩; replace HK := hid hp2; have c1c := HK.out.c1; replace TK := hid ((TK.out.trans T1.out (fun _ _ e => e.elim)).trans t2 (fun _ _ e => e)); clear hp2 t2 K3 T1))
        try clear c1
        go_wp2_with fail
        refine (KC.out _).mono ?_
        rintro e w3 ⟨v, rfl, ow⟩
        obtain ⟨a3, c3, hv, _⟩ := ow.slice
        subst hv
        have T3 := hid (TK.out.trans ow.touch (fun _ _ e => e.elim))
        have O3 := hid ow.own
        have N3 := hid (fun g e => Nat.le_trans TK.out.size (ow.new g e))
        replace HK := hid (HK.out.new ow.touch)
        clear ow KC TK
        go_wp2_with fail
        refine (took1_y 125 HK.out (by omega) h125).mono ?_
        rintro e w4 ⟨rfl, hp, tt⟩
        have O4 := hid (rowKept O3.out tt (fun g e s => by subst s; obtain ⟨cs, fr, hh⟩ := own_type O3.out g e; rw [HK.out.cells] at hh; cases hh))
        replace HK := hid hp
        have T4 := hid (T3.out.trans tt (fun _ _ e => e))
        obtain ⟨a4, c4, hv4, r4⟩ := own_rg O4.out
        cases hv4
        have KN := hid (not_cn2 a3 c3 m w4 r4)
        clear hp tt h125 T3 O3 r4
        go_wp2_with fail
        refine KN.out.mono ?_
        rintro e w5 ⟨v5, rfl, ow⟩
        obtain ⟨a5, c5, hv5, _⟩ := ow.slice
        subst hv5
        have O5 := hid (rowKept O4.out ow.touch (fun _ _ e => e))
        have P5 := hid ow.own
        have N5 := hid (fun g e => Nat.le_trans T4.out.size (ow.new g e))
        replace HK := hid (HK.out.new ow.touch)
        have T5 := hid (T4.out.trans ow.touch (fun _ _ e => e.elim))
        clear ow KN O4 T4
        cases neg with
        | false =>
          go_wp2_with fail
          refine (pick_set false _ _ w5).mono ?_
          rintro e w6 ⟨he, rfl⟩
          rw [if_neg (by decide)] at he
          subst he
          go_wp2
          go_ret
          rw [← HA.out]
          exact ⟨_, rfl, O5.out, N3.out, HK.out, T5.out⟩
        | true =>
          go_wp2_with fail
          refine (pick_set true _ _ w5).mono ?_
          rintro e w6 ⟨he, rfl⟩
          rw [if_pos rfl] at he
          subst he
          go_wp2
          go_ret
          rw [← HA.out]
          refine ⟨.slice a5 (notR m).length c5, rfl, ?_, N5.out, HK.out, T5.out⟩
          have hc : cnR (if True then notR m else m) = notR m := by rw [if_pos trivial]; exact cn_not m
          rw [hc]
          exact P5.out
      · rw [if_neg h125] at HA
        go_enter Tryz.func142, Tryz.ntmps142
        go_wp2_with fail
        refine (took1_y 123 HK.out (by omega) h123).mono ?_
        rintro e ws1 ⟨rfl, hp, tt⟩
        replace HK := hid hp
        replace TK := hid (TK.out.trans tt (fun _ _ e => e))
        clear hp tt
        clear h123
        have c1 : ws1.drew.cell? ⟨b, 1, none⟩ = some (.slice X.ar X.R.length X.cr) := HK.out.c1
        go_wp2_with fail
        have Mk0 : True := trivial
        go_region_held3 (fun w' => w'.cell? ⟨b, 1, none⟩ = some (.slice X.ar X.R.length X.cr)) (first | exact c1 | exact c1b | exact c1c | exact HK.out.c1)
          (first
            | (clear Mk0; go_at_call 144; refine (letdig_any _).mono ?_; rintro e w1 ⟨v, rfl, o1⟩; obtain ⟨a1, ca1, hv, _⟩ := o1.slice; subst hv; have T1 := hid ((Touch.refl (fun _ => False) ws1).drew.trans o1.touch (fun _ _ e => e)); have c1b := (HK.out.new T1.out).c1; have K3 := hid (K2.out a1 ca1 w1 (HK.out.new T1.out) o1.own); clear o1 K2; have Mk1 : True := trivial)
            | (clear Mk1; go_at_call 137; refine K3.out.mono ?_; rintro e w2 ⟨rfl, hp2, t2⟩; replace HK := hid hp2; have c1c := HK.out.c1; replace TK := hid ((TK.out.trans T1.out (fun _ _ e => e.elim)).trans t2 (fun _ _ e => e)); clear hp2 t2 K3 T1))
        try clear c1
        go_wp2_with fail
        refine (KC.out _).mono ?_
        rintro e w3 ⟨v, rfl, ow⟩
        obtain ⟨a3, c3, hv, _⟩ := ow.slice
        subst hv
        replace HK := hid (HK.out.new ow.touch)
        replace TK := hid (TK.out.trans ow.touch (fun _ _ e => e.elim))
        clear ow KC
        go_wp2_with fail
        refine (took1_n 125 HK.out (by omega) h125).mono ?_
        rintro e ws4 ⟨rfl, hp, tt⟩
        replace HK := hid hp
        replace TK := hid (TK.out.trans tt (fun _ _ e => e))
        clear hp tt
        go_wp2_with fail
        refine (KW.out _ _ HK.out).mono ?_
        rintro e w9 ⟨rfl, t9⟩
        replace TK := hid (TK.out.trans t9 (fun _ _ e => e.elim))
        clear t9 KW
        go_wp2
        refine ⟨rfl, ?_⟩
        rw [← HA.out]
        exact ⟨rfl, TK.out⟩
  · rw [if_neg h123] at HA
    clear h hX hk hk0
    go_enter Tryz.func142, Tryz.ntmps142
    go_wp2_with fail
    refine (took1_n 123 HK.out (by omega) h123).mono ?_
    rintro e ws1 ⟨rfl, hp, tt⟩
    replace HK := hid hp
    replace TK := hid (TK.out.trans tt (fun _ _ e => e))
    clear hp tt
    clear h123
    go_wp2_with fail
    refine (KW.out _ _ HK.out).mono ?_
    rintro e w9 ⟨rfl, t9⟩
    replace TK := hid (TK.out.trans t9 (fun _ _ e => e.elim))
    clear t9 KW
    go_wp2
    refine ⟨rfl, ?_⟩
    rw [← HA.out]
    exact ⟨rfl, TK.out⟩
end Go.Proofs.YtdhhcefmmojcmaaGreatDoor

/- A parser of patterns: ParseInt to the base of sixteen; conditions: as told. -/
namespace Go.Proofs.YtdhhcefmmojcmaaGreatDoor
open Go.RowKit
open Go.Lib

theorem conv_bytes (w : World) (s : ByteArray) : ∃ cap w', (convert 9 49 (.string s)).run Tryz.prog w = .ok (.slice (some ⟨w.heap.size, 0, none⟩) s.size cap) w' ∧ (∀ i (h : i < s.size), w'.cell? ⟨w.heap.size, i, none⟩ = some (.int .u8 ((s[i].toNat : Nat) : Int))) ∧ Touch (fun _ => False) w w' := by
  have hr := run_bytes_of_string (P := Tryz.prog) w 9 49 5 s Tryz.underlying9 Tryz.underlying49 Tryz.underlying5
  refine ⟨_, _, hr, fun i hi => ?_, ((Touch.refl _ _).drewN 1).alloc _⟩
  have hb := heap_alloc_new w.drew (.cells (bytesRow s (grownCap w s.size 0 5)) 5 ((bytesRow s (grownCap w s.size 0 5)).size, (bytesRow s (grownCap w s.size 0 5)).size + 1))
  unfold World.cell?
  rw [show w.heap.size = w.drew.heap.size from rfl, hb]
  have hi2 : i < s.data.size := hi
  simp only [Option.isSome_none, Bool.false_eq_true, if_false]
  unfold bytesRow
  rw [Array.getElem?_append_left (by rw [Array.size_map]; exact hi2), Array.getElem?_map, Array.getElem?_eq_getElem hi2]
  rfl
theorem lower_any (x : Nat) (y : Int) (h : bits .or .u8 (x : Int) 32 = y) (w : World) : Calls Tryz.prog 166 #[.int .u8 (x : Nat)] w fun e w' => e = .returned (.int .u8 y) ∧ w' = w := by
  go_enter Tryz.func166, Tryz.ntmps166
  go_wp2
  go_ret
  exact ⟨by subst h; rfl, rfl⟩
theorem low_up : ∀ x : Nat, 65 ≤ x → x ≤ 70 → bits .or .u8 (x : Int) 32 = ((x + 32 : Nat) : Int) := by
  intro x h1 h2
  rcases (show x = 65 ∨ x = 66 ∨ x = 67 ∨ x = 68 ∨ x = 69 ∨ x = 70 by omega) with rfl | rfl | rfl | rfl | rfl | rfl <;> decide
theorem low_low : ∀ x : Nat, 97 ≤ x → x ≤ 102 → bits .or .u8 (x : Int) 32 = (x : Int) := by
  intro x h1 h2
  rcases (show x = 97 ∨ x = 98 ∨ x = 99 ∨ x = 100 ∨ x = 101 ∨ x = 102 by omega) with rfl | rfl | rfl | rfl | rfl | rfl <;> decide
theorem val16_snoc (l : List Int) (c : Int) : val16 (l ++ [c]) = 16 * val16 l + hexV c := by simp [val16]
theorem hexV_lt {c : Int} (h : isHex c = true) : hexV c < 16 := by
  simp only [isHex, isDig, Bool.or_eq_true, Bool.and_eq_true, decide_eq_true_eq] at h
  unfold hexV
  split
  · omega
  · split <;> omega
theorem val16_at : ∀ (l : List Int) (a : Nat), (∀ c ∈ l, isHex c = true) → l.foldl (fun a d => 16 * a + hexV d) a < (a + 1) * 16 ^ l.length
  | [], a, _ => by simp
  | c :: l, a, h => by
    have ih := val16_at l (16 * a + hexV c) (fun x hx => h x (by simp [hx]))
    have hc := hexV_lt (h c (by simp))
    rw [List.foldl_cons, List.length_cons, Nat.pow_succ]
    have h2 : (16 * a + hexV c + 1) * 16 ^ l.length ≤ ((a + 1) * 16) * 16 ^ l.length := Nat.mul_le_mul_right _ (by omega)
    rw [Nat.mul_assoc, Nat.mul_comm 16 (16 ^ l.length)] at h2
    omega
theorem val16_lt (l : List Int) (h : ∀ c ∈ l, isHex c = true) : val16 l < 16 ^ l.length := by
  have := val16_at l 0 h
  unfold val16
  omega
theorem val16_take (l : List Int) (i : Nat) (h : i < l.length) : val16 (l.take (i + 1)) = 16 * val16 (l.take i) + hexV l[i] := by
  rw [List.take_succ_eq_append_getElem h, val16_snoc]
set_option maxRecDepth 100000 in
set_option maxHeartbeats 8000000 in
theorem puint_any (l : List Int) (hl : ∀ c ∈ l, isHex c = true) (h6 : l.length ≤ 6) (h0 : l ≠ []) (w : World) :
    Calls Tryz.prog 162 #[.string (bytesI l), .int .i64 16, .int .i64 32] w fun e w' => e = .returned (.tuple #[.int .u64 ((val16 l : Nat) : Int), .nilIface]) ∧ Touch (fun _ => False) w w' := by
  have hsz : (bytesI l).size = l.length := by unfold bytesI; rw [← size_list]; simp
  obtain ⟨cap, wc, hc, hcell, ht⟩ := conv_bytes w (bytesI l)
  have hs1 : (bytesI l).toList.isEmpty = false := by
    rw [Lib.toList_data]
    cases l with
    | nil => exact absurd rfl h0
    | cons c l => rfl
  have hs2 : ((bytesI l).toList == ([] : List UInt8)) = false := by
    rw [Lib.toList_data]
    cases l with
    | nil => exact absurd rfl h0
    | cons c l => rfl
  have HB := hid (fun (i : Nat) (hi : i < l.length) => (show wc.cell? ⟨w.heap.size, i, none⟩ = some (.int .u8 ((l[i].toNat : Nat) : Int)) from by
    rw [hcell i (by rw [hsz]; exact hi)]
    have hh := hl l[i] (List.getElem_mem hi)
    simp only [isHex, isDig, Bool.or_eq_true, Bool.and_eq_true, decide_eq_true_eq] at hh
    have e : (bytesI l)[i]'(by rw [hsz]; exact hi) = UInt8.ofNat l[i].toNat := by
      show (bytesI l).data[i]'(by show i < (bytesI l).size; rw [hsz]; exact hi) = _
      simp [bytesI]
    rw [e]
    have : (UInt8.ofNat l[i].toNat).toNat = l[i].toNat % 256 := by simp
    rw [this, Nat.mod_eq_of_lt (by omega)]))
  have HT := hid ht
  have HL := hid hl
  rw [hsz] at hc
  obtain ⟨S, hS⟩ : ∃ S, S = bytesI l := ⟨_, rfl⟩
  rw [← hS] at hc hs1 hs2 ⊢
  clear hS hcell ht hl hsz h0
  obtain ⟨n, hn⟩ : ∃ n, n = l.length := ⟨_, rfl⟩
  have HN := hid hn
  rw [← hn] at hc h6
  obtain ⟨V, hV⟩ : ∃ V, V = val16 l := ⟨_, rfl⟩
  have HV := hid hV
  rw [← hV]
  clear hn hV
  go_enter Tryz.func162, Tryz.ntmps162
  go_wp2_with fail
  generalize eC : (1152921504606846976 : Int) = C
  generalize eD : (4294967295 : Int) = D
  have HC1 := hid eC
  have HD1 := hid eD
  clear eC eD
  go_loopg [12, 13, 101] n (fun gk z v u wq => ∃ i N : Nat, i + gk = n ∧ z = .bool false ∧ v = .int .u64 (N : Nat) ∧ u = .int .i64 (i : Nat) ∧ Hid (N = val16 (l.take i)) ∧ Hid (Touch (fun _ => False) wc wq))
  case atStart => exact ⟨0, 0, by omega, rfl, rfl, rfl, hid rfl, hid (Touch.refl _ _)⟩
  case round =>
    obtain ⟨i, N, hi, rfl, rfl, rfl, HD, TK⟩ := hrel
    by_cases hlt : i < n
    · have hlI : (i : Int) < (n : Int) := by omega
      have HI := hid (show i < l.length by rw [← HN.out]; exact hlt)
      obtain ⟨c, hc⟩ : ∃ c, c = l[i]'HI.out := ⟨_, rfl⟩
      have HC := hid hc
      have hh := HL.out _ (List.getElem_mem HI.out)
      rw [← hc] at hh
      have hN : N ≤ 1048575 := by
        have h1 := val16_lt (l.take i) (fun c hc => HL.out c (List.mem_of_mem_take hc))
        have h2 : (l.take i).length ≤ 5 := by rw [List.length_take]; omega
        have h3 : 16 ^ (l.take i).length ≤ 16 ^ 5 := Nat.pow_le_pow_right (by decide) h2
        have := HD.out
        omega
      have d0 := (TK.out.cell (p := ⟨w.heap.size, i, none⟩) (Lib.lt_of_cell (HB.out i HI.out)) id).trans (HB.out i HI.out)
      rw [← hc] at d0
      clear hc
      obtain ⟨x, hx⟩ : ∃ x : Nat, x = c.toNat := ⟨_, rfl⟩
      rw [← hx] at d0
      simp only [isHex, isDig, Bool.or_eq_true, Bool.and_eq_true, decide_eq_true_eq] at hh
      by_cases c1 : x ≤ 57
      · have a1 : 48 ≤ x := by omega
        obtain ⟨d, hd⟩ : ∃ d, d = x - 48 := ⟨_, rfl⟩
        have HXD := hid (show hexV c = d from by unfold hexV; rw [if_pos (by omega)]; omega)
        have hd16 : d < 16 := by omega
        have b0 : ((x : Int) == 95) = false := beq_eq_false_iff_ne.2 (by omega)
        have e0 : (x : Int) - 48 = (d : Int) := by omega
        have a1I : (48 : Int) ≤ (x : Int) := by omega
        have a2I : (x : Int) ≤ 57 := by omega
        clear hh hx hd c1 a1
        obtain ⟨K, hK⟩ : ∃ K, K = 16 * N := ⟨_, rfl⟩
        obtain ⟨M, hM⟩ : ∃ M, M = K + d := ⟨_, rfl⟩
        have HXD2 := hid (show M = val16 (l.take (i + 1)) from by rw [val16_take l i HI.out, ← HD.out, ← HC.out, HXD.out, hM, hK])
        have w1 : (N : Int) * 16 = (K : Int) := by omega
        have w2 : (K : Int) + (d : Int) = (M : Int) := by omega
        have w3 : IntKind.u64.wrap (K : Int) = (K : Int) := by rw [IntKind.wrap_u64]; omega
        have w4 : IntKind.u64.wrap (d : Int) = (d : Int) := by rw [IntKind.wrap_u64]; omega
        have w5 : IntKind.u64.wrap (M : Int) = (M : Int) := by rw [IntKind.wrap_u64]; omega
        have hdI : (d : Int) < 16 := by omega
        have hNI : (N : Int) < C := by rw [← HC1.out]; omega
        have hMI : ¬ (M : Int) < (K : Int) := by omega
        have hMJ : (M : Int) ≤ D := by rw [← HD1.out]; omega
        clear hK hM
        go_wp2_with fail
        go_roundg (gk - 1)
        case measure => omega
        case rel => exact ⟨i + 1, M, by omega, rfl, rfl, by go_num, HXD2, TK⟩
      · have b0 : ((x : Int) == 95) = false := beq_eq_false_iff_ne.2 (by omega)
        have a2I : ¬ (x : Int) ≤ 57 := by omega
        have a1I : (48 : Int) ≤ (x : Int) := by omega
        obtain ⟨d, hd⟩ : ∃ d, d = hexV c := ⟨_, rfl⟩
        have HXD := hid hd.symm
        by_cases c2 : x ≤ 70
        · obtain ⟨y, hy⟩ : ∃ y, y = x + 32 := ⟨_, rfl⟩
          have KL := hid (lower_any x (y : Int) (by rw [hy]; exact low_up x (by omega) (by omega)))
          have hdx : d = x - 55 := by rw [hd]; unfold hexV; rw [if_neg (by omega), if_pos (by omega)]; omega
          have hd16 : d < 16 := by omega
          have y1 : (97 : Int) ≤ (y : Int) := by omega
          have y2 : (y : Int) ≤ 122 := by omega
          have e0 : (y : Int) - 97 + 10 = (d : Int) := by omega
          clear hh hx hd c1 c2 hy hdx
          obtain ⟨K, hK⟩ : ∃ K, K = 16 * N := ⟨_, rfl⟩
          obtain ⟨M, hM⟩ : ∃ M, M = K + d := ⟨_, rfl⟩
          have HXD2 := hid (show M = val16 (l.take (i + 1)) from by rw [val16_take l i HI.out, ← HD.out, ← HC.out, HXD.out, hM, hK])
          have w1 : (N : Int) * 16 = (K : Int) := by omega
          have w2 : (K : Int) + (d : Int) = (M : Int) := by omega
          have w3 : IntKind.u64.wrap (K : Int) = (K : Int) := by rw [IntKind.wrap_u64]; omega
          have w4 : IntKind.u64.wrap (d : Int) = (d : Int) := by rw [IntKind.wrap_u64]; omega
          have w5 : IntKind.u64.wrap (M : Int) = (M : Int) := by rw [IntKind.wrap_u64]; omega
          have hdI : (d : Int) < 16 := by omega
          have hNI : (N : Int) < C := by rw [← HC1.out]; omega
          have hMI : ¬ (M : Int) < (K : Int) := by omega
          have hMJ : (M : Int) ≤ D := by rw [← HD1.out]; omega
          clear hK hM
          go_wp2_with fail
          refine (KL.out _).mono ?_
          rintro e w2 ⟨rfl, rfl⟩
          go_wp2_with fail
          refine (KL.out _).mono ?_
          rintro e w2 ⟨rfl, rfl⟩
          go_wp2_with fail
          refine (KL.out _).mono ?_
          rintro e w2 ⟨rfl, rfl⟩
          clear KL
          go_wp2_with fail
          go_roundg (gk - 1)
          case measure => omega
          case rel => exact ⟨i + 1, M, by omega, rfl, rfl, by go_num, HXD2, TK⟩
        · obtain ⟨y, hy⟩ : ∃ y, y = x := ⟨_, rfl⟩
          have KL := hid (lower_any x (y : Int) (by rw [hy]; exact low_low x (by omega) (by omega)))
          have hdx : d = x - 87 := by rw [hd]; unfold hexV; rw [if_neg (by omega), if_neg (by omega)]; omega
          have hd16 : d < 16 := by omega
          have y1 : (97 : Int) ≤ (y : Int) := by omega
          have y2 : (y : Int) ≤ 122 := by omega
          have e0 : (y : Int) - 97 + 10 = (d : Int) := by omega
          clear hh hx hd c1 c2 hy hdx
          obtain ⟨K, hK⟩ : ∃ K, K = 16 * N := ⟨_, rfl⟩
          obtain ⟨M, hM⟩ : ∃ M, M = K + d := ⟨_, rfl⟩
          have HXD2 := hid (show M = val16 (l.take (i + 1)) from by rw [val16_take l i HI.out, ← HD.out, ← HC.out, HXD.out, hM, hK])
          have w1 : (N : Int) * 16 = (K : Int) := by omega
          have w2 : (K : Int) + (d : Int) = (M : Int) := by omega
          have w3 : IntKind.u64.wrap (K : Int) = (K : Int) := by rw [IntKind.wrap_u64]; omega
          have w4 : IntKind.u64.wrap (d : Int) = (d : Int) := by rw [IntKind.wrap_u64]; omega
          have w5 : IntKind.u64.wrap (M : Int) = (M : Int) := by rw [IntKind.wrap_u64]; omega
          have hdI : (d : Int) < 16 := by omega
          have hNI : (N : Int) < C := by rw [← HC1.out]; omega
          have hMI : ¬ (M : Int) < (K : Int) := by omega
          have hMJ : (M : Int) ≤ D := by rw [← HD1.out]; omega
          clear hK hM
          go_wp2_with fail
          refine (KL.out _).mono ?_
          rintro e w2 ⟨rfl, rfl⟩
          go_wp2_with fail
          refine (KL.out _).mono ?_
          rintro e w2 ⟨rfl, rfl⟩
          go_wp2_with fail
          refine (KL.out _).mono ?_
          rintro e w2 ⟨rfl, rfl⟩
          clear KL
          go_wp2_with fail
          go_roundg (gk - 1)
          case measure => omega
          case rel => exact ⟨i + 1, M, by omega, rfl, rfl, by go_num, HXD2, TK⟩
    · have hlI : ¬ (i : Int) < (n : Int) := by omega
      have HE := hid (show N = V from by rw [HD.out, HV.out, List.take_of_length_le (by rw [← HN.out]; omega)])
      go_wp2
      refine bodyPost_ret (results_tmp2 rfl _ _ _) rfl ?_
      rw [← HE.out]
      exact ⟨rfl, HT.out.trans TK.out (fun _ _ e => e)⟩
end Go.Proofs.YtdhhcefmmojcmaaGreatDoor
