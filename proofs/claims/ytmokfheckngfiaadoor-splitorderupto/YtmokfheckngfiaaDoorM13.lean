/- Texts of this proof, one behind the other: what each says stands ahead of it. -/
import Derived.Test.YtmokfheckngfiaaDoorM8
import Derived.Test.YtmokfheckngfiaaDoorM12
import Derived.Test.YtmokfheckngfiaaDoorM10
import Derived.Test.YtmokfheckngfiaaDoorM11
/- Split of a set that has one scalar, or none; conditions: those told. -/
namespace Go.Proofs.YtmokfheckngfiaaDoor
open Go.RowKit
open Go.Lib

theorem lit_rg (w : World) (x y : Int) : S.Rg (w.alloc (.cells #[.int .i64 x, .int .i64 y] 38)) (some ⟨w.heap.size, 0, none⟩) [(x, y)] := by
  refine .inr ⟨w.heap.size, 0, rfl, by simp, fun i hi => ?_⟩
  obtain rfl : i = 0 := by simp at hi; omega
  have hb := block_new w #[.int .i64 x, .int .i64 y] 38
  generalize (w.alloc (.cells #[.int .i64 x, .int .i64 y] 38)) = w1 at hb ⊢
  exact ⟨by simp [World.cell?, hb], by simp [World.cell?, hb]⟩
def surL : List S.R2 := [(55296, 57343)]
theorem sur_set {s : List S.R2} (hs : S.Canon s) (h : ∀ x, S.In x s ↔ (0 ≤ x ∧ x ≤ 1114111) ∧ S.In x surL) : s = surL := by
  refine S.canon_one hs ⟨by simp [surL, S.inB], List.pairwise_singleton _ _⟩ (fun x => ?_)
  rw [h x, surL, S.in_one]
  exact ⟨fun k => k.2, fun k => ⟨by dsimp only at k; omega, k⟩⟩
theorem nil_set {s : List S.R2} (hs : S.Canon s) (h : ∀ x, ¬ S.In x s) : s = [] :=
  S.canon_one hs ⟨by simp, List.Pairwise.nil⟩ (fun x => ⟨fun k => absurd k (h x), fun k => absurd k (S.in_nil x)⟩)
theorem one_set {s : List S.R2} {q : Int} (hq : 0 ≤ q ∧ q ≤ 1114111) (hs : S.Canon s) (h : ∀ x, S.In x s ↔ x = q) : s = [(q, q)] := by
  refine S.canon_one hs ⟨by simp [S.inB]; omega, List.pairwise_singleton _ _⟩ (fun x => ?_)
  rw [h x, S.in_one]
  exact ⟨fun k => by dsimp only; omega, fun k => by dsimp only at k; omega⟩
theorem Rb.first (w : World) : Rb (fun k => k = w.heap.size ∨ (Value.slice none 0 0).ownBlock = some k) (w.alloc (.cells #[.slice none 0 0] 32)) (w.alloc (.cells #[.slice none 0 0] 32)) w.heap.size (.slice none 0 0) [] :=
  ⟨World.ownsRow_nil _ _ _ _, fun g hg => by simp [Value.ownBlock] at hg, block_new w _ 32, Touch.refl _ _, .inl rfl⟩
/-- What Split hands back. -/
def NoRows (w : World) (e : Ending) (w' : World) : Prop := e = .returned (.slice none 0 0) ∧ Touch (fun _ => False) w w'
def OneRow (z : List S.R2) (w : World) (e : Ending) (w' : World) : Prop := ∃ b n a c, e = .returned (.slice (some ⟨b, 0, none⟩) 1 n) ∧ b < w'.heap.size ∧ 1 ≤ n ∧ w'.cell? ⟨b, 0, none⟩ = some (.slice a z.length c) ∧ S.Rg w' a z ∧ Touch (fun _ => False) w w'
theorem own_first41 {w : World} {v x : Value} (h : w.ownsRow 0 41 1 v 1 [x]) : ∃ g n, v = .slice (some ⟨g, 0, none⟩) 1 n ∧ g < w.heap.size ∧ 1 ≤ n ∧ w.cell? ⟨g, 0, none⟩ = some x := by
  rcases h.2 with ⟨_, h0⟩ | ⟨g, cap, cur, rfl, hg, hh, hle, rest⟩
  · simp at h0
  · have h1 := h.cells (g := g) rfl 0 x rfl
    rw [S.add_g] at h1
    exact ⟨g, cap, rfl, lt_of_block hh, hle, h1⟩
inductive PutDone (q : Nat) (z : List S.R2) (w w' : World) : Prop
  | mk (v : Value) (a : Option Addr) (c : Nat) (own : w'.ownsRow 0 41 1 v 1 [.slice a z.length c]) (blk : w'.heap[q]? = some (.cells #[v] 32 (0, 0))) (rg : S.Rg w' a z) (tc : Touch (fun k => k = q ∨ (Value.slice none 0 0).ownBlock = some k) w w') : PutDone q z w w'
set_option maxRecDepth 100000 in
set_option maxHeartbeats 8000000 in
theorem split_no (a : Option Addr) (c : Nat) (s : List S.R2) (w : World) (hl : S.Rg w a s) (hs : S.Canon s) (hc : s.length ≤ c) (hbd : Bord w) (hin : ∀ y, S.In y s ∧ ¬ S.In y surL ↔ False) :
    Calls Tryd.prog 15 #[.slice a s.length c] w fun e w' => NoRows w e w' := by
  have RB1 := hid (Rb.first w)
  have TA := hid ((Touch.refl (fun _ => False) w).alloc (.cells #[.slice none 0 0] 32))
  have HL := hid (hl.new TA.out)
  have HBD := hid (hbd.new TA.out)
  have HIN := hid hin
  have HS := hid hs
  have HC := hid hc
  clear hl hbd hin hs hc
  go_enter Tryd.func15, Tryd.ntmps15
  go_upto_region 3 with fail
  generalize (w.alloc (.cells #[.slice none 0 0] 32)) = w1 at *
  obtain ⟨q, hq⟩ : ∃ q, q = w.heap.size := ⟨_, rfl⟩
  have HQ := hid (show w.heap.size ≤ q by omega)
  rw [← hq] at RB1 ⊢
  clear hq
  have RG := hid (lit_rg w1 55296 57343)
  have TB := hid ((Touch.refl (fun _ => False) w1).alloc (.cells #[.int .i64 55296, .int .i64 57343] 38))
  go_wp2_with fail
  change Calls Tryd.prog 16 #[_] (w1.alloc (.cells #[.int .i64 55296, .int .i64 57343] 38)) _
  generalize (w1.alloc (.cells #[.int .i64 55296, .int .i64 57343] 38)) = w2 at *
  refine (S.of_says (some ⟨w1.heap.size, 0, none⟩) 1 [(55296, 57343)] w2 RG.out (by simp)).mono ?_
  rintro e w3 ⟨v, s3, rfl, hcs, his, ows⟩
  obtain rfl : s3 = surL := sur_set hcs his
  obtain ⟨a3, c3, hv, hrs⟩ := S.own_rg ows.own
  subst hv
  have T3 := hid (TB.out.trans ows.touch (fun _ _ e => e))
  have KL := hid (S.less_says a a3 c c3 s surL w3 (HL.out.new T3.out) hrs HC.out HS.out hcs)
  clear hcs his ows hrs RG TB
  go_wp2_with fail
  refine KL.out.mono ?_
  rintro e w4 ⟨v, m, rfl, hcm, him, owm⟩
  obtain rfl : m = [] := nil_set hcm (fun y hy => (HIN.out y).1 ((him y).1 hy))
  obtain ⟨a4, c4, hv, hrm⟩ := owm.rg
  subst hv
  have T4 := hid (T3.out.trans owm.touch (fun _ _ e => e))
  have R4 := hid (RB1.out.still T4.out)
  have RM := hid hrm
  have HCM := hid owm.cap
  have B4 := hid (HBD.out.new T4.out)
  clear hcm him owm hrm T3 KL HL HC HS HIN RB1 HBD
  have bq := R4.out.blk
  have cq : w4.cell? ⟨q, 0, none⟩ = some (.slice none 0 0) := by simp [World.cell?, bq]
  go_wp2_with fail
  go_loopg [14] 0 (fun _ v14 wq => v14 = .int .i64 0 ∧ wq = w4)
  case atStart => exact ⟨rfl, rfl⟩
  case round =>
    obtain ⟨rfl, rfl⟩ := hrel
    go_wp2
    go_ret
    exact ⟨rfl, TA.out.trans T4.out (fun _ _ e => e)⟩
set_option maxRecDepth 100000 in
set_option maxHeartbeats 8000000 in
theorem split_one (x : Nat) (hx : okc 1 (x : Int) = true) (a : Option Addr) (c : Nat) (s : List S.R2) (w : World) (hl : S.Rg w a s) (hs : S.Canon s) (hc : s.length ≤ c) (hbd : Bord w) (hin : ∀ y, S.In y s ∧ ¬ S.In y surL ↔ y = (x : Int)) :
    Calls Tryd.prog 15 #[.slice a s.length c] w fun e w' => OneRow (List.zip (en8 (x : Int)) (en8 (x : Int))) w e w' := by
  have HX := hid hx
  have hxm : x ≤ 1114111 := by have h1 : 0 ≤ (x : Int) ∧ (x : Int) ≤ 1114111 := okc_in hx; omega
  have KB0 := hid (fun q w h1 h2 => cutBL_one x hx q (.slice none 0 0) [] w h1 h2 (by simp))
  generalize List.zip (en8 (x : Int)) (en8 (x : Int)) = z at *
  clear hx
  have RB1 := hid (Rb.first w)
  have TA := hid ((Touch.refl (fun _ => False) w).alloc (.cells #[.slice none 0 0] 32))
  have HL := hid (hl.new TA.out)
  have HBD := hid (hbd.new TA.out)
  have HIN := hid hin
  have HS := hid hs
  have HC := hid hc
  clear hl hbd hin hs hc
  go_enter Tryd.func15, Tryd.ntmps15
  go_upto_region 3 with fail
  generalize (w.alloc (.cells #[.slice none 0 0] 32)) = w1 at *
  obtain ⟨q, hq⟩ : ∃ q, q = w.heap.size := ⟨_, rfl⟩
  have HQ := hid (show w.heap.size ≤ q by omega)
  rw [← hq] at RB1 ⊢
  clear hq
  have RG := hid (lit_rg w1 55296 57343)
  have TB := hid ((Touch.refl (fun _ => False) w1).alloc (.cells #[.int .i64 55296, .int .i64 57343] 38))
  go_wp2_with fail
  change Calls Tryd.prog 16 #[_] (w1.alloc (.cells #[.int .i64 55296, .int .i64 57343] 38)) _
  generalize (w1.alloc (.cells #[.int .i64 55296, .int .i64 57343] 38)) = w2 at *
  refine (S.of_says (some ⟨w1.heap.size, 0, none⟩) 1 [(55296, 57343)] w2 RG.out (by simp)).mono ?_
  rintro e w3 ⟨v, s3, rfl, hcs, his, ows⟩
  obtain rfl : s3 = surL := sur_set hcs his
  obtain ⟨a3, c3, hv, hrs⟩ := S.own_rg ows.own
  subst hv
  have T3 := hid (TB.out.trans ows.touch (fun _ _ e => e))
  have KL := hid (S.less_says a a3 c c3 s surL w3 (HL.out.new T3.out) hrs HC.out HS.out hcs)
  clear hcs his ows hrs RG TB
  go_wp2_with fail
  refine KL.out.mono ?_
  rintro e w4 ⟨v, m, rfl, hcm, him, owm⟩
  obtain rfl : m = [((x : Int), (x : Int))] := one_set (okc_in HX.out) hcm (fun y => (him y).trans (HIN.out y))
  obtain ⟨a4, c4, hv, hrm⟩ := owm.rg
  subst hv
  have T4 := hid (T3.out.trans owm.touch (fun _ _ e => e))
  have R4 := hid (RB1.out.still T4.out)
  have RM := hid hrm
  have HCM := hid owm.cap
  have B4 := hid (HBD.out.new T4.out)
  clear hcm him owm hrm T3 KL HL HC HS HIN RB1 HBD
  go_wp2_with fail
  go_loopg [14] 1 (fun gk v14 wq => (gk = 1 ∧ v14 = .int .i64 0 ∧ wq = w4) ∨ (gk = 0 ∧ v14 = .int .i64 1 ∧ PutDone q z w1 wq))
  case atStart => exact .inl ⟨rfl, rfl, rfl⟩
  case round =>
    rcases hrel with ⟨rfl, rfl, rfl⟩ | ⟨rfl, rfl, hd⟩
    · obtain ⟨b4, o4, ha4, hb4, c0, c1, _⟩ := S.Rg.head RM.out
      subst ha4
      dsimp only at c0 c1
      have hix0 : (0 : Int) < (([((x : Int), (x : Int))] : List S.R2).length : Int) := by simp
      have TC := hid ((Touch.refl (fun _ => False) wr).alloc (.cells #[.int .i64 (x : Nat), .int .i64 (x : Nat)] 38))
      have KK := hid (KB0.out q (wr.alloc (.cells #[.int .i64 (x : Nat), .int .i64 (x : Nat)] 38)) (B4.out.new TC.out) (R4.out.still TC.out).now)
      have T5 := hid (R4.out.still TC.out).touch
      clear RM KB0 B4 R4 TC T4
      go_wp2_with fail
      refine KK.out.mono ?_
      rintro e w6 ⟨rfl, v6, a6, c6, hrb, hrg, _⟩
      have P6 := hid (PutDone.mk v6 a6 c6 hrb.own hrb.blk hrg (T5.out.trans hrb.touch (fun k _ e => e)))
      clear hrb hrg KK c0 c1
      go_wp2
      go_roundg 0
      case measure => omega
      case rel => exact .inr ⟨rfl, rfl, P6.out⟩
    · obtain ⟨v6, a6, c6, hown, hblk, hrg, htc⟩ := hd
      have cq : wr.cell? ⟨q, 0, none⟩ = some v6 := by simp [World.cell?, hblk]
      obtain ⟨g, n, rfl, hg, hn, hcell⟩ := own_first41 hown
      have RG := hid hrg
      have T6 := hid (TA.out.trans htc (fun k hk e => by
        rcases e with e | e
        · have := HQ.out; omega
        · simp [Value.ownBlock] at e))
      clear hrg htc hown hblk
      go_wp2
      go_ret
      exact ⟨g, n, a6, c6, rfl, hg, hn, hcell, RG.out, T6.out⟩
end Go.Proofs.YtmokfheckngfiaaDoor

/- Split of any set; conditions: those told. -/
namespace Go.Proofs.YtmokfheckngfiaaDoor
open Go.RowKit
open Go.Lib

theorem Parts.size {f t i : Nat} {l : List (Nat × Nat)} (h : Parts f t i l) : i ≤ 4 → l.length ≤ min (t + 1) (bdL i) - f := by
  induction h with
  | none => intro _; simp
  | skip i l h hn ih =>
    intro hi
    have := ih (by omega)
    have := bd_lt i (by omega)
    omega
  | put i l m h hn hc ih =>
    intro hi
    have h1 := ih (by omega)
    have h2 := hc.few (by omega) hn
    have h3 := bd_lt i (by omega)
    rw [List.length_append]
    omega
/-- The parts of some ranges, one behind the other. -/
inductive AllP : List S.R2 → List (Nat × Nat) → Prop
  | none : AllP [] []
  | more (s : List S.R2) (l k : List (Nat × Nat)) (f t : Nat) (h : AllP s l) (hup : ∀ r ∈ s, r.2 < (f : Int)) (hk : Parts f t 4 k) : AllP (s ++ [((f : Int), (t : Int))]) (l ++ k)
theorem AllP.few {s : List S.R2} {l : List (Nat × Nat)} (h : AllP s l) : ∀ B : Nat, (∀ r ∈ s, r.2 < (B : Int)) → l.length ≤ B := by
  induction h with
  | none => intro B _; simp
  | more s l k f t h hup hk ih =>
    intro B hB
    have h1 := ih f hup
    have h2 := hk.size (Nat.le_refl _)
    have h3 := hB ((f : Int), (t : Int)) (by simp)
    dsimp only at h3
    rw [List.length_append]
    by_cases hft : f ≤ t
    · omega
    · have h4 : k.length = 0 := by omega
      by_cases hs : s = []
      · subst hs
        have h5 := ih 0 (by simp)
        omega
      · have h5 := ih B (fun r hr => hB r (by simp [hr]))
        omega
theorem apart_sur {m : List S.R2} (hn : ∀ x, S.In x m → ¬ S.In x surL) (r : S.R2) (hr : r ∈ m) (hle : r.1 ≤ r.2) : r.2 < 55296 ∨ 57344 ≤ r.1 := by
  rcases Int.lt_or_le r.2 55296 with h | h
  · exact .inl h
  · rcases Int.lt_or_le r.1 57344 with g | g
    · exfalso
      refine hn (max r.1 55296) ⟨r, hr, by omega, by omega⟩ ?_
      rw [surL, S.in_one]
      dsimp only
      omega
    · exact .inr g
/-- What Split hands back: the list of the rows of the parts of what the set has beside the surrogates. -/
def SplitDone (s : List S.R2) (w : World) (e : Ending) (w' : World) : Prop := ∃ m l v os, S.Canon m ∧ (∀ x, S.In x m ↔ S.In x s ∧ ¬ S.In x surL) ∧ AllP m l ∧ e = .returned v ∧ w'.ownsRow 0 41 1 v os.length os ∧ RowsAt w' w.heap.size os l ∧ Touch (fun _ => False) w w'
structure SaS (w w1 : World) (q : Nat) (m : List S.R2) (k : Nat) (wq : World) : Prop where
  rows : ∃ l v os, AllP (m.take k) l ∧ Rb (fun b => b = q ∨ (Value.slice none 0 0).ownBlock = some b) w1 wq q v os ∧ RowsAt wq w.heap.size os l
set_option maxRecDepth 100000 in
set_option maxHeartbeats 8000000 in
theorem split_all (a : Option Addr) (c : Nat) (s : List S.R2) (w : World) (hl : S.Rg w a s) (hs : S.Canon s) (hc : s.length ≤ c) (hbd : Bord w) :
    Calls Tryd.prog 15 #[.slice a s.length c] w fun e w' => SplitDone s w e w' := by
  have RB1 := hid (Rb.first w)
  have TA := hid ((Touch.refl (fun _ => False) w).alloc (.cells #[.slice none 0 0] 32))
  have HL := hid (hl.new TA.out)
  have B0 := hid hbd
  have HS := hid hs
  have HC := hid hc
  have HW := hid TA.out.size
  clear hl hbd hs hc
  go_enter Tryd.func15, Tryd.ntmps15
  go_upto_region 3 with fail
  generalize (w.alloc (.cells #[.slice none 0 0] 32)) = w1 at *
  obtain ⟨q, hq⟩ : ∃ q, q = w.heap.size := ⟨_, rfl⟩
  have HQ := hid (show w.heap.size ≤ q by omega)
  rw [← hq] at RB1 ⊢
  clear hq
  have RG := hid (lit_rg w1 55296 57343)
  have TB := hid ((Touch.refl (fun _ => False) w1).alloc (.cells #[.int .i64 55296, .int .i64 57343] 38))
  go_wp2_with fail
  change Calls Tryd.prog 16 #[_] (w1.alloc (.cells #[.int .i64 55296, .int .i64 57343] 38)) _
  generalize (w1.alloc (.cells #[.int .i64 55296, .int .i64 57343] 38)) = w2 at *
  refine (S.of_says (some ⟨w1.heap.size, 0, none⟩) 1 [(55296, 57343)] w2 RG.out (by simp)).mono ?_
  rintro e w3 ⟨v, s3, rfl, hcs, his, ows⟩
  obtain rfl : s3 = surL := sur_set hcs his
  obtain ⟨a3, c3, hv, hrs⟩ := S.own_rg ows.own
  subst hv
  have T3 := hid (TB.out.trans ows.touch (fun _ _ e => e))
  have KL := hid (S.less_says a a3 c c3 s surL w3 (HL.out.new T3.out) hrs HC.out HS.out hcs)
  clear hcs his ows hrs RG TB
  go_wp2_with fail
  refine KL.out.mono ?_
  rintro e w4 ⟨v, m, rfl, hcm, him, owm⟩
  obtain ⟨a4, c4, hv, hrm⟩ := owm.rg
  subst hv
  have T4 := hid (T3.out.trans owm.touch (fun _ _ e => e))
  have R4 := hid (RB1.out.still T4.out)
  have RM := hid hrm
  have CM := hid hcm
  have IM := hid him
  have hlen := S.canon_len hcm
  have NEWM := hid owm.own
  clear hcm him owm hrm T3 KL HL HC HS RB1 T4
  go_wp2_with fail
  go_loopg [14] m.length (fun gk v14 wq => ∃ k : Nat, k + gk = m.length ∧ v14 = .int .i64 (k : Nat) ∧ Rowed wq 0 (.slice a4 m.length c4) m ∧ SaS w w1 q m k wq)
  case atStart => exact ⟨0, by omega, rfl, ⟨a4, c4, rfl, RM.out, fun b o' hab => ⟨Nat.zero_le _, own_block38 NEWM.out (g := b) (by rw [hab]; rfl)⟩⟩, [], _, [], by rw [List.take_zero]; exact .none, R4.out, trivial⟩
  case round =>
    obtain ⟨k, hk, rfl, hrm, hst⟩ := hrel
    have MR := hid hrm
    obtain ⟨l, v3, os, hap, hrb, hrw⟩ := hst.rows
    have AP := hid hap
    have AR := hid hrb
    have RW := hid hrw
    have SZ := hid (Nat.le_trans HW.out hrb.touch.size)
    clear hrm hst hap hrb hrw
    by_cases hlt : k < m.length
    · obtain ⟨a', c', hsl, hrg, _⟩ := MR.out
      simp only [Value.slice.injEq] at hsl
      obtain ⟨rfl, _, rfl⟩ := hsl
      obtain ⟨b, o, ha, hbl, hcell⟩ : ∃ b o, a4 = some ⟨b, o, none⟩ ∧ b < wr.heap.size ∧ ∀ i (h : i < m.length), wr.cell? ⟨b, o + i * 2, none⟩ = some (.int .i64 (m[i]).1) ∧ wr.cell? ⟨b, o + i * 2 + 1, none⟩ = some (.int .i64 (m[i]).2) := by
        rcases hrg with h | h
        · rw [h] at hlt; simp at hlt
        · exact h
      subst ha
      obtain ⟨d0, d1⟩ := hcell k hlt
      have hr1 := CM.out.in_ m[k] (List.getElem_mem _)
      have HSUR := hid (apart_sur (fun x hx => ((IM.out x).1 hx).2) m[k] (List.getElem_mem _) hr1.2.1)
      have HUP := hid (show ∀ r ∈ m.take k, r.2 < (m[k]).1 from fun r hr => by
        obtain ⟨j, hj, rfl⟩ := List.mem_take_iff_getElem.1 hr
        have := List.pairwise_iff_getElem.1 CM.out.up j k (by omega) hlt (by omega)
        omega)
      have HTK := hid (List.take_succ_eq_append_getElem hlt)
      obtain ⟨r, hr⟩ : ∃ r, r = m[k] := ⟨_, rfl⟩
      rw [← hr] at d0 d1 hr1 HSUR HUP HTK
      obtain ⟨x, y⟩ := r
      unfold S.inB at hr1
      dsimp only at d0 d1 hr1 HSUR HUP
      obtain ⟨f, rfl⟩ : ∃ f : Nat, x = (f : Int) := ⟨x.toNat, by omega⟩
      obtain ⟨t, rfl⟩ : ∃ t : Nat, y = (t : Int) := ⟨y.toNat, by omega⟩
      have hkI : (k : Int) < (m.length : Int) := by omega
      have NUM := hid (show os.length ≤ 1000000000 by
        have h1 := RW.out.len
        have h2 := AP.out.few f HUP.out
        omega)
      have TC := hid ((Touch.refl (fun _ => False) wr).alloc (.cells #[.int .i64 (f : Nat), .int .i64 (t : Nat)] 38))
      have BO := hid (show Bord wr from by
        obtain ⟨tb, hb0⟩ := B0.out
        have h0 := lt_of_block hb0
        have h1 := HW.out
        refine ⟨tb, (AR.out.touch.block 0 (by omega) (fun e => ?_)).trans ((TA.out.block 0 h0 id).trans hb0)⟩
        rcases e with e | e
        · have := HQ.out; omega
        · simp [Value.ownBlock] at e)
      have A5 := hid (AR.out.still TC.out)
      have KK := hid (cutBL_all f t (by omega) (by have := HSUR.out; omega) q v3 os (wr.alloc (.cells #[.int .i64 (f : Nat), .int .i64 (t : Nat)] 38)) (BO.out.new TC.out) A5.out.now NUM.out)
      have RW5 := hid (RW.out.new TC.out)
      have MR5 := hid (MR.out.kept TC.out (fun _ _ _ _ e => e))
      have SZ5 := hid (Nat.le_trans SZ.out TC.out.size)
      clear hcell hr hrg RW AR MR SZ TC BO NUM hr1
      go_wp2_with fail
      generalize (wr.alloc (.cells #[.int .i64 (f : Nat), .int .i64 (t : Nat)] 38)) = w5 at *
      refine KK.out.mono ?_
      rintro e w6 ⟨l5, hpt, rfl, v6, os6, hrb, hrw⟩
      have ALL := hid (rows_more (o := []) A5.out RW5.out hrb hrw SZ5.out)
      have MR6 := hid (MR5.out.kept hrb.touch (fun b cs _ hc => A5.out.apart38 b cs hc))
      have AP6 := hid (AllP.more _ _ _ f t AP.out HUP.out hpt)
      rw [← HTK.out] at AP6
      clear hrb hrw hpt KK d0 d1
      go_wp2
      go_roundg (gk - 1)
      case measure => omega
      case rel => exact ⟨k + 1, by omega, by first | rfl | go_num, MR6.out, _, v6, os ++ os6, AP6.out, ALL.out.1, ALL.out.2⟩
    · obtain rfl : k = m.length := by omega
      have hblk := AR.out.blk
      have cq : wr.cell? ⟨q, 0, none⟩ = some v3 := by simp [World.cell?, hblk]
      have AP2 := hid AP.out
      rw [List.take_length] at AP2
      have T6 := hid (TA.out.trans AR.out.touch (fun b hb e => by
        rcases e with e | e
        · have := HQ.out; omega
        · simp [Value.ownBlock] at e))
      clear hblk AP
      go_wp2
      go_ret
      exact ⟨m, l, v3, os, CM.out, IM.out, AP2.out, rfl, AR.out.own, RW.out, T6.out⟩
end Go.Proofs.YtmokfheckngfiaaDoor

/- What the rows of a set's parts tell, and how they lie; conditions: those told. -/
namespace Go.Proofs.YtmokfheckngfiaaDoor
open Go.RowKit
open Go.Lib

attribute [local irreducible] fitL zOf
theorem mem_fit {l m : List (Nat × Nat)} {s : List Int} : (∃ p ∈ l ++ m, fitL (zOf p) s) ↔ (∃ p ∈ l, fitL (zOf p) s) ∨ (∃ p ∈ m, fitL (zOf p) s) := by
  constructor
  · rintro ⟨p, hp, h⟩
    rcases List.mem_append.1 hp with k | k
    · exact .inl ⟨p, k, h⟩
    · exact .inr ⟨p, k, h⟩
  · rintro (⟨p, hp, h⟩ | ⟨p, hp, h⟩)
    · exact ⟨p, List.mem_append.2 (.inl hp), h⟩
    · exact ⟨p, List.mem_append.2 (.inr hp), h⟩
theorem cuts_fit {fu f t : Nat} {l : List (Nat × Nat)} (h : Cuts fu f t l) : Cls fu f t → ∀ s : List Int, (∃ p ∈ l, fitL (zOf p) s) ↔ ∃ x : Nat, (f ≤ x ∧ x ≤ t) ∧ s = en8 (x : Int) := by
  induction h with
  | leaf f t h =>
    intro hcl s
    constructor
    · rintro ⟨p, hp, hf⟩
      obtain rfl : p = (f, t) := by simpa using hp
      obtain ⟨x, h1, h2, h3⟩ := (leaf_fit hcl h s).1 hf
      exact ⟨x, ⟨h1, h2⟩, h3⟩
    · rintro ⟨x, ⟨h1, h2⟩, h3⟩
      exact ⟨(f, t), by simp, (leaf_fit hcl h s).2 ⟨x, h1, h2, h3⟩⟩
  | node f t i a l m hi hn hc hl hm ihl ihm =>
    intro hcl s
    have h1 := cutL_some (six hi hcl.few) hcl.le hc
    rw [mem_fit, ihl (hcl.left h1.1 h1.2) s, ihm (hcl.right h1.1 h1.2) s]
    constructor
    · rintro (⟨x, hx, e⟩ | ⟨x, hx, e⟩)
      · exact ⟨x, by omega, e⟩
      · exact ⟨x, by omega, e⟩
    · rintro ⟨x, hx, e⟩
      rcases Nat.lt_or_ge x a with k | k
      · exact .inl ⟨x, by omega, e⟩
      · exact .inr ⟨x, by omega, e⟩
theorem parts_fit {f t i : Nat} {l : List (Nat × Nat)} (h : Parts f t i l) (hs : t < 55296 ∨ 57344 ≤ f) : i ≤ 4 → ∀ s : List Int, (∃ p ∈ l, fitL (zOf p) s) ↔ ∃ x : Nat, (f ≤ x ∧ x ≤ t ∧ x < bdL i) ∧ s = en8 (x : Int) := by
  induction h with
  | none =>
    intro _ s
    constructor
    · rintro ⟨p, hp, _⟩
      simp at hp
    · rintro ⟨x, ⟨_, _, h⟩, _⟩
      exact absurd h (Nat.not_lt_zero _)
  | skip i l h hn ih =>
    intro hi s
    rw [ih (by omega) s]
    have := bd_lt i (by omega)
    constructor
    · rintro ⟨x, hx, e⟩
      exact ⟨x, by omega, e⟩
    · rintro ⟨x, hx, e⟩
      exact ⟨x, by omega, e⟩
  | put i l m h hn hc ih =>
    intro hi s
    have := bd_lt i (by omega)
    rw [mem_fit, ih (by omega) s, cuts_fit hc (cls_at (by omega) hs hn) s]
    constructor
    · rintro (⟨x, hx, e⟩ | ⟨x, hx, e⟩)
      · exact ⟨x, by omega, e⟩
      · exact ⟨x, by omega, e⟩
    · rintro ⟨x, hx, e⟩
      rcases Nat.lt_or_ge x (bdL i) with k | k
      · exact .inl ⟨x, by omega, e⟩
      · exact .inr ⟨x, by omega, e⟩
theorem allp_fit {m : List S.R2} {l : List (Nat × Nat)} (h : AllP m l) : (∀ r ∈ m, r.2 ≤ 1114111 ∧ (r.2 < 55296 ∨ 57344 ≤ r.1)) → ∀ s : List Int, (∃ p ∈ l, fitL (zOf p) s) ↔ ∃ x : Nat, S.In (x : Int) m ∧ s = en8 (x : Int) := by
  induction h with
  | none =>
    intro _ s
    constructor
    · rintro ⟨p, hp, _⟩
      simp at hp
    · rintro ⟨x, h, _⟩
      exact absurd h (S.in_nil _)
  | more r l k f t h hup hk ih =>
    intro hr s
    have h1 := hr ((f : Int), (t : Int)) (by simp)
    dsimp only at h1
    rw [mem_fit, ih (fun q hq => hr q (by simp [hq])) s, parts_fit hk (by omega) (Nat.le_refl _) s]
    have hb : bdL 4 = 1114112 := rfl
    constructor
    · rintro (⟨x, hx, e⟩ | ⟨x, hx, e⟩)
      · exact ⟨x, S.in_append.2 (.inl hx), e⟩
      · exact ⟨x, S.in_append.2 (.inr (S.in_one.2 (by dsimp only; omega))), e⟩
    · rintro ⟨x, hx, e⟩
      rcases S.in_append.1 hx with k | k
      · exact .inl ⟨x, k, e⟩
      · have := S.in_one.1 k
        dsimp only at this
        exact .inr ⟨x, by omega, e⟩
theorem cuts_up {fu f t : Nat} {l : List (Nat × Nat)} (h : Cuts fu f t l) : fu ≤ 3 → f ≤ t → (∀ p ∈ l, f ≤ p.1 ∧ p.1 ≤ p.2 ∧ p.2 ≤ t) ∧ l.Pairwise (fun p q => p.2 < q.1) := by
  induction h with
  | leaf f t h =>
    intro _ hft
    refine ⟨fun p hp => ?_, List.pairwise_singleton _ _⟩
    obtain rfl : p = (f, t) := by simpa using hp
    exact ⟨Nat.le_refl _, hft, Nat.le_refl _⟩
  | node f t i a l m hi hn hc hl hm ihl ihm =>
    intro hfu hft
    have h1 := cutL_some (six hi hfu) hft hc
    obtain ⟨a1, a2⟩ := ihl hfu (by omega)
    obtain ⟨b1, b2⟩ := ihm hfu (by omega)
    refine ⟨fun p hp => ?_, List.pairwise_append.2 ⟨a2, b2, fun p hp q hq => ?_⟩⟩
    · rcases List.mem_append.1 hp with k | k
      · have := a1 p k; omega
      · have := b1 p k; omega
    · have := a1 p hp
      have := b1 q hq
      omega
theorem parts_up {f t i : Nat} {l : List (Nat × Nat)} (h : Parts f t i l) : i ≤ 4 → (∀ p ∈ l, f ≤ p.1 ∧ p.1 ≤ p.2 ∧ p.2 ≤ t ∧ p.2 < bdL i) ∧ l.Pairwise (fun p q => p.2 < q.1) := by
  induction h with
  | none => intro _; exact ⟨fun p hp => by simp at hp, List.Pairwise.nil⟩
  | skip i l h hn ih =>
    intro hi
    have := bd_lt i (by omega)
    obtain ⟨a1, a2⟩ := ih (by omega)
    exact ⟨fun p hp => by have := a1 p hp; omega, a2⟩
  | put i l m h hn hc ih =>
    intro hi
    have := bd_lt i (by omega)
    obtain ⟨a1, a2⟩ := ih (by omega)
    obtain ⟨b1, b2⟩ := cuts_up hc (by omega) hn
    refine ⟨fun p hp => ?_, List.pairwise_append.2 ⟨a2, b2, fun p hp q hq => ?_⟩⟩
    · rcases List.mem_append.1 hp with k | k
      · have := a1 p k; omega
      · have := b1 p k; omega
    · have := a1 p hp
      have := b1 q hq
      omega
theorem allp_up {m : List S.R2} {l : List (Nat × Nat)} (h : AllP m l) : (∀ p ∈ l, p.1 ≤ p.2 ∧ ∃ r ∈ m, r.1 ≤ (p.1 : Int) ∧ (p.2 : Int) ≤ r.2) ∧ l.Pairwise (fun p q => p.2 < q.1) := by
  induction h with
  | none => exact ⟨fun p hp => by simp at hp, List.Pairwise.nil⟩
  | more s l k f t h hup hk ih =>
    obtain ⟨a1, a2⟩ := ih
    obtain ⟨b1, b2⟩ := parts_up hk (Nat.le_refl _)
    refine ⟨fun p hp => ?_, List.pairwise_append.2 ⟨a2, b2, fun p hp q hq => ?_⟩⟩
    · rcases List.mem_append.1 hp with g | g
      · obtain ⟨c1, r, hr, c2⟩ := a1 p g
        exact ⟨c1, r, by simp [hr], c2⟩
      · have := b1 p g
        exact ⟨this.2.1, ((f : Int), (t : Int)), by simp, by dsimp only; omega, by dsimp only; omega⟩
    · obtain ⟨_, r, hr, c2⟩ := a1 p hp
      have := b1 q hq
      have := hup r hr
      omega
end Go.Proofs.YtmokfheckngfiaaDoor
