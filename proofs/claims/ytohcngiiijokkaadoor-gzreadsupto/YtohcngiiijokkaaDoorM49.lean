/- Texts of this proof, one behind the other: what each says stands ahead of it. -/
import Derived.Test.YtohcngiiijokkaaDoorM42
import Derived.Test.YtohcngiiijokkaaDoorM43
import Derived.Test.YtohcngiiijokkaaDoorM44
import Derived.Test.YtohcngiiijokkaaDoorM45
import Derived.Test.YtohcngiiijokkaaDoorM46
import Derived.Test.YtohcngiiijokkaaDoorM47
import Derived.Test.YtohcngiiijokkaaDoorM48
import Derived.Test.YtohcngiiijokkaaDoorM33
/- The document's part, whatever the bytes; conditions: those told. -/
namespace Go.Proofs.YtohcngiiijokkaaDoor
open Go.RowKit

theorem rpart_any (s : ByteArray) (p most : Nat) (w : World) (hs : s.size ≤ 140737488) (hp : p ≤ s.size) (hm : most ≤ 9223372036854775807) :
    Calls Tryd.prog 14 #[.string s, .int .i64 (p : Nat), .int .i64 (most : Nat)] w fun e w' => ∃ x, Gz.partR s p most x ∧ QPost w x e w' := by
  cases hh : Gz.headAt s p with
  | error y => exact rpart_head s p most w hs hp hm (fun f h => by rw [hh] at h; cases h)
  | ok f =>
    have h0 : ∀ y, Gz.headAt s p = .error y → False := fun y h => by rw [hh] at h; cases h
    cases hx : Gz.perhaps (f / 4 % 2 == 1) (p + 10) (Gz.extraAt s (p + 10)) with
    | error y =>
      exact rpart_extra s p most w hs hp hm h0 (fun f' z h1 h2 => by
        rw [hh] at h1
        cases h1
        rw [hx] at h2
        cases h2)
    | ok z =>
      cases ht : Gz.textsAt s (p + 10) f with
      | error y =>
        exact rpart_names s p most w hs hp hm h0 (fun f' y h1 h2 => by
          rw [hh] at h1
          cases h1
          rw [hx] at h2
          cases h2) (fun f' z h1 h2 => by
          rw [hh] at h1
          cases h1
          rw [ht] at h2
          cases h2)
      | ok z =>
        have h1 : ∀ f y, Gz.headAt s p = .ok f → Gz.textsAt s (p + 10) f = .error y → False := fun f' y h1 h2 => by
          rw [hh] at h1
          cases h1
          rw [ht] at h2
          cases h2
        obtain ⟨x, n, c, t⟩ := z
        cases hsm : Gz.sumAt s p t (f / 2 % 2 == 1) with
        | error y =>
          exact rpart_sum s p most w hs hp hm h0 h1 (fun f' x n c t t3 h1 h2 h3 => by
            rw [hh] at h1
            cases h1
            rw [ht] at h2
            cases h2
            rw [hsm] at h3
            cases h3)
        | ok t3 =>
          have h2 : ∀ f x n c t y, Gz.headAt s p = .ok f → Gz.textsAt s (p + 10) f = .ok (x, n, c, t) → Gz.sumAt s p t (f / 2 % 2 == 1) = .error y → False := fun f' x n c t y h1 h2 h3 => by
            rw [hh] at h1
            cases h1
            rw [ht] at h2
            cases h2
            rw [hsm] at h3
            cases h3
          cases hfh : (f / 2 % 2 == 1) with
          | false =>
            exact rpart_k0 s p most w hs hp hm h0 h1 h2 (fun f' k1 => by
              rw [hh] at k1
              cases k1
              exact ⟨trivial, hfh⟩)
          | true =>
            cases hfe : (f / 4 % 2 == 1) with
            | false =>
              exact rpart_k1 s p most w hs hp hm h0 h1 h2 (fun f' k1 => by
                rw [hh] at k1
                cases k1
                exact ⟨hfe, hfh⟩)
            | true =>
              have FG : ∀ f, Gz.headAt s p = .ok f → (f / 4 % 2 == 1) = true ∧ (f / 2 % 2 == 1) = true := fun f' k1 => by
                rw [hh] at k1
                cases k1
                exact ⟨hfe, hfh⟩
              by_cases hq : ∃ S NN C A, Says (s.extract t3 s.size) t3 most S NN C A ∧ (C ≠ 0 ∨ s.size < NN + 8 ∨ Gz.num s NN 4 ≠ Gz.sum S)
              · obtain ⟨S, NN, C, A, hsy, hb⟩ := hq
                exact rpart_k2 s p most w hs hp hm h0 h1 h2 (fun f' x n c t t4 S2 N2 C2 A2 k1 k2 k3 k4 => by
                  rw [hh] at k1
                  cases k1
                  rw [ht] at k2
                  cases k2
                  rw [hsm] at k3
                  cases k3
                  obtain ⟨rfl, rfl, rfl, rfl⟩ := Gz.says_same hsy k4
                  exact hb) FG
              · exact rpart_k3 s p most w hs hp hm h0 h1 h2 (fun f' x n c t t4 S2 N2 C2 A2 k1 k2 k3 k4 => by
                  rw [hh] at k1
                  cases k1
                  rw [ht] at k2
                  cases k2
                  rw [hsm] at k3
                  cases k3
                  refine ⟨Classical.byContradiction fun h => hq ⟨_, _, _, _, k4, .inl h⟩, fun h => hq ⟨_, _, _, _, k4, .inr (.inl h)⟩, Classical.byContradiction fun h => hq ⟨_, _, _, _, k4, .inr (.inr h)⟩⟩) FG
end Go.Proofs.YtohcngiiijokkaaDoor

/- The document's Read, of any bytes; conditions: those told. -/
namespace Go.Proofs.YtohcngiiijokkaaDoor
open Go.RowKit

theorem info45f : (Tryd.prog.info? 45).map (fun i => (i.zero, i.size, i.bytes)) = some (some (.agg #[.string ⟨#[]⟩, .string ⟨#[]⟩, .string ⟨#[]⟩, .bool false, .bool false, .int .i64 0, .int .i64 0, .int .i64 0, .string ⟨#[]⟩]), 9, 96) := by kernel_rfl
/-- What the document's Read answers. -/
def R2Post (w : World) : Except Gz.Bad (List Gz.Part) → Ending → World → Prop
  | .error y, e, w' => e = .returned (.tuple #[.slice none 0 0, .int .i64 (y.1 : Nat), .int .i64 (y.2 : Nat)]) ∧ Touch (fun _ => False) w w'
  | .ok l, e, w' => ∃ v, e = .returned (.tuple #[v, .int .i64 0, .int .i64 0]) ∧ OwP 45 w w' v l ∧ Touch (fun _ => False) w w'
set_option maxRecDepth 100000 in
theorem rread_neg (s : ByteArray) (most : Int) (w : World) (h : most < 0) : Calls Tryd.prog 7 #[.string s, .int .i64 most] w fun e w' => e = .returned (.tuple #[.slice none 0 0, .int .i64 1, .int .i64 0]) ∧ w = w' := by
  go_enter Tryd.func7, Tryd.ntmps7
  go_wp2
  refine bodyPost_ret (results_tmp3 rfl _ _ _) rfl ?_
  exact ⟨rfl, rfl⟩
structure RdT (w wq : World) (s : ByteArray) (most t m : Nat) (v : Value) (l : List Gz.Part) : Prop where
  le : t ≤ s.size
  own : OwP 45 w wq v l
  upto : Gz.Upto s most t m l
  touch : Touch (fun _ => False) w wq
  few : l.length ≤ 1024
  bound : m ≤ most
set_option maxRecDepth 100000 in
set_option maxHeartbeats 8000000 in
theorem rread_any (s : ByteArray) (most : Nat) (w : World) (hs : s.size ≤ 140737488) (hm : most ≤ 9223372036854775807) :
    Calls Tryd.prog 7 #[.string s, .int .i64 (most : Nat)] w fun e w' => ∃ r, Gz.Rd s 0 most 0 r ∧ R2Post w r e w' := by
  obtain ⟨i0, hi45, hz0, hz1, hz2⟩ := info_parts info45f
  have hmI : ¬ ((most : Int) < 0) := by omega
  have S0 := hid (show RdT w w s most 0 most (.slice none 0 0) [] from ⟨Nat.zero_le _, OwP.nil _ _ _, Gz.Upto.zero s most, Touch.refl _ _, by simp, Nat.le_refl _⟩)
  go_enter Tryd.func7, Tryd.ntmps7
  go_wp2_with fail
  go_loopg [1, 7, 8] (s.size + 1) (fun gk v1 v7 v8 wq => ∃ (t m : Nat) (l : List Gz.Part), v1 = .int .i64 (m : Nat) ∧ v8 = .int .i64 (t : Nat) ∧ RdT w wq s most t m v7 l ∧ s.size - t + 1 ≤ gk)
  case atStart => exact ⟨0, most, [], rfl, rfl, S0.out, by omega⟩
  case round =>
    obtain ⟨t, m, l, rfl, rfl, hst, hgk⟩ := hrel
    have ST := hid hst
    have hfew := hst.few
    have hle := hst.le
    have hbd := hst.bound
    obtain ⟨a7, c7, hv7⟩ := own_shape hst.own.own
    subst hv7
    clear hst S0
    by_cases hl0 : l.length = 0
    · obtain ⟨g, rfl⟩ : ∃ g, gk = g + 1 := ⟨gk - 1, by omega⟩
      have HGO := hid (show l.length = 0 ∨ t < s.size from .inl hl0)
      have hl0I : ((l.length : Int) == 0) = true := by rw [beq_iff_eq]; omega
      have hmy : ¬ ((1024 : Int) ≤ (l.length : Int)) := by omega
      have HMY := hid (show l.length < 1024 by omega)
      have KP := hid (rpart_any s t m wr hs ST.out.le (by omega))
      clear hl0
      go_wp2_with fail
      refine KP.out.mono ?_
      rintro e w1 ⟨r, hpr, hpost⟩
      clear KP
      cases r with
      | error y =>
        obtain ⟨⟨P, rfl⟩, hyc, tc⟩ := hpost
        have HPR := hid hpr
        have T1 := hid (ST.out.touch.trans tc (fun _ _ e => e))
        have hyI : ((y.1 : Int) == 0) = false := by rw [beq_eq_false_iff_ne]; omega
        have hyJ : ((y.1 : Int) != 0) = true := by rw [bne_iff_ne]; omega
        clear hpr tc hyc
        obtain ⟨pn, pc, px, pt, ph, pm, po, ps, pd⟩ := P
        simp only [partC]
        go_wp2
        refine bodyPost_ret (results_tmp3 rfl _ _ _) rfl ?_
        exact ⟨.error y, ST.out.upto.bad HGO.out HMY.out HPR.out, rfl, T1.out.alloc _⟩
      | ok pe =>
        obtain ⟨p, t'⟩ := pe
        obtain ⟨rfl, tc⟩ := hpost
        have HIN := hid (Gz.part_in hpr)
        have HUP := hid (ST.out.upto.step HGO.out HMY.out hpr)
        have T1 := hid (ST.out.touch.trans tc (fun _ _ e => e))
        have O1 := hid (ST.out.own.still tc)
        clear hpr tc
        obtain ⟨pn, pc, px, pt, ph, pm, po, ps, pd⟩ := p
        simp only [partC]
        go_upto_region 9 with fail
        have F8 := hid (cells_new w1 #[.string pn, .string pc, .string px, .bool pt, .bool ph, .int .i64 (pm : Nat), .int .i64 (po : Nat), .int .i64 (ps : Nat), .string pd] 45)
        have al1 := (Touch.refl (fun _ => False) w1).alloc (.cells #[.string pn, .string pc, .string px, .bool pt, .bool ph, .int .i64 (pm : Nat), .int .i64 (po : Nat), .int .i64 (ps : Nat), .string pd] 45)
        have T2 := hid (T1.out.trans al1 (fun _ _ e => e))
        have O2 := hid (O1.out.still al1)
        clear al1 T1 O1
        generalize w1.alloc (.cells #[.string pn, .string pc, .string px, .bool pt, .bool ph, .int .i64 (pm : Nat), .int .i64 (po : Nat), .int .i64 (ps : Nat), .string pd] 45) = w2 at *
        generalize w1.heap.size = q8 at *
        have z8 : w2.cell? ⟨q8, 8, none⟩ = some (.string pd) := blk_cell F8.out 8
        have hpd : pd.size ≤ m := HIN.out.2.2
        have al := (Touch.refl (fun _ => False) w2).alloc (.cells #[.string pn, .string pc, .string px, .bool pt, .bool ph, .int .i64 (pm : Nat), .int .i64 (po : Nat), .int .i64 (ps : Nat), .string pd] 45)
        have O3 := hid (O2.out.still al)
        have T3 := hid (T2.out.alloc (.cells #[.string pn, .string pc, .string px, .bool pt, .bool ph, .int .i64 (pm : Nat), .int .i64 (po : Nat), .int .i64 (ps : Nat), .string pd] 45))
        clear al T2 O2
        go_wp2_with (first
          | refine wpList_load_row rfl 45 _ rfl q8 rfl 45 _ (0, 0) _ F8.out Tryd.underlying45 rfl info45 ?_
          | (at_builtin; refine wpList_append_own_at _ rfl _ _ 32 rfl 0 45 i0 (.agg #[.string ⟨#[]⟩, .string ⟨#[]⟩, .string ⟨#[]⟩, .bool false, .bool false, .int .i64 0, .int .i64 0, .int .i64 0, .string ⟨#[]⟩]) 9 96 Tryd.underlying32 hi45 hz0 hz1 hz2 rfl (by decide) _ _ _ rfl O3.out.own ⟨w2.heap.size, 0, none⟩ 1 1 (flatP [⟨pn, pc, px, pt, ph, pm, po, ps, pd⟩]) rfl rfl newsP (flatP_one _) (by unfold maxLen; omega) (by omega) (Nat.zero_le _) ?_)
          | fail)
        intro v4 w4 hown hgrow _ hat
        obtain ⟨a4, c4, hv4⟩ := own_shape hown
        subst hv4
        have hsz2 : (w2.alloc (.cells #[.string pn, .string pc, .string px, .bool pt, .bool ph, .int .i64 (pm : Nat), .int .i64 (po : Nat), .int .i64 (ps : Nat), .string pd] 45)).heap.size = w2.heap.size + 1 := by simp
        have S4 := hid (show RdT w w4 s most t' (m - pd.size) (.slice a4 (l.length + 1) c4) (l ++ [⟨pn, pc, px, pt, ph, pm, po, ps, pd⟩]) from
          ⟨HIN.out.2.1, O3.out.app _ T3.out.size hown (by rw [hsz2]; exact hat), HUP.out,
            T3.out.grown hgrow (fun k hk hlt => by have := O3.out.new k hk; omega),
            by rw [List.length_append]; simp; have := HMY.out; omega, by omega⟩)
        clear hown hgrow hat O3 T3
        have hbI : IntKind.i64.wrap ((m : Int) - (pd.size : Int)) = ((m - pd.size : Nat) : Int) := by rw [IntKind.wrap_i64]; omega
        go_wp2
        go_roundg g
        case measure => omega
        case rel => exact ⟨t', m - pd.size, l ++ [⟨pn, pc, px, pt, ph, pm, po, ps, pd⟩], by first | rfl | (congr 1; omega), rfl, by rw [show l.length + 1 = (l ++ [(⟨pn, pc, px, pt, ph, pm, po, ps, pd⟩ : Gz.Part)]).length by simp] at *; exact S4.out, by have := HIN.out; omega⟩
    · have hl0I : ((l.length : Int) == 0) = false := by rw [beq_eq_false_iff_ne]; omega
      have HL0 := hid hl0
      clear hl0
      by_cases hlt : t < s.size
      · obtain ⟨g, rfl⟩ : ∃ g, gk = g + 1 := ⟨gk - 1, by omega⟩
        have HGO := hid (show l.length = 0 ∨ t < s.size from .inr hlt)
        have hltI : (t : Int) < (s.size : Int) := by omega
        by_cases hmany : l.length = 1024
        · have hmy : (1024 : Int) ≤ (l.length : Int) := by omega
          have HMY := hid hmany
          have HLT := hid hlt
          clear hmany
          go_wp2
          refine bodyPost_ret (results_tmp3 rfl _ _ _) rfl ?_
          exact ⟨.error (16, t), ST.out.upto.many HLT.out HMY.out, rfl, ST.out.touch⟩
        · have hmy : ¬ ((1024 : Int) ≤ (l.length : Int)) := by omega
          have HMY := hid (show l.length < 1024 by omega)
          have KP := hid (rpart_any s t m wr hs ST.out.le (by omega))
          clear hmany
          go_wp2_with fail
          refine KP.out.mono ?_
          rintro e w1 ⟨r, hpr, hpost⟩
          clear KP
          cases r with
          | error y =>
            obtain ⟨⟨P, rfl⟩, hyc, tc⟩ := hpost
            have HPR := hid hpr
            have T1 := hid (ST.out.touch.trans tc (fun _ _ e => e))
            have hyI : ((y.1 : Int) == 0) = false := by rw [beq_eq_false_iff_ne]; omega
            have hyJ : ((y.1 : Int) != 0) = true := by rw [bne_iff_ne]; omega
            clear hpr tc hyc
            obtain ⟨pn, pc, px, pt, ph, pm, po, ps, pd⟩ := P
            simp only [partC]
            go_wp2
            refine bodyPost_ret (results_tmp3 rfl _ _ _) rfl ?_
            exact ⟨.error y, ST.out.upto.bad HGO.out HMY.out HPR.out, rfl, T1.out.alloc _⟩
          | ok pe =>
            obtain ⟨p, t'⟩ := pe
            obtain ⟨rfl, tc⟩ := hpost
            have HIN := hid (Gz.part_in hpr)
            have HUP := hid (ST.out.upto.step HGO.out HMY.out hpr)
            have T1 := hid (ST.out.touch.trans tc (fun _ _ e => e))
            have O1 := hid (ST.out.own.still tc)
            clear hpr tc
            obtain ⟨pn, pc, px, pt, ph, pm, po, ps, pd⟩ := p
            simp only [partC]
            go_upto_region 9 with fail
            have F8 := hid (cells_new w1 #[.string pn, .string pc, .string px, .bool pt, .bool ph, .int .i64 (pm : Nat), .int .i64 (po : Nat), .int .i64 (ps : Nat), .string pd] 45)
            have al1 := (Touch.refl (fun _ => False) w1).alloc (.cells #[.string pn, .string pc, .string px, .bool pt, .bool ph, .int .i64 (pm : Nat), .int .i64 (po : Nat), .int .i64 (ps : Nat), .string pd] 45)
            have T2 := hid (T1.out.trans al1 (fun _ _ e => e))
            have O2 := hid (O1.out.still al1)
            clear al1 T1 O1
            generalize w1.alloc (.cells #[.string pn, .string pc, .string px, .bool pt, .bool ph, .int .i64 (pm : Nat), .int .i64 (po : Nat), .int .i64 (ps : Nat), .string pd] 45) = w2 at *
            generalize w1.heap.size = q8 at *
            have z8 : w2.cell? ⟨q8, 8, none⟩ = some (.string pd) := blk_cell F8.out 8
            have hpd : pd.size ≤ m := HIN.out.2.2
            have al := (Touch.refl (fun _ => False) w2).alloc (.cells #[.string pn, .string pc, .string px, .bool pt, .bool ph, .int .i64 (pm : Nat), .int .i64 (po : Nat), .int .i64 (ps : Nat), .string pd] 45)
            have O3 := hid (O2.out.still al)
            have T3 := hid (T2.out.alloc (.cells #[.string pn, .string pc, .string px, .bool pt, .bool ph, .int .i64 (pm : Nat), .int .i64 (po : Nat), .int .i64 (ps : Nat), .string pd] 45))
            clear al T2 O2
            go_wp2_with (first
              | refine wpList_load_row rfl 45 _ rfl q8 rfl 45 _ (0, 0) _ F8.out Tryd.underlying45 rfl info45 ?_
              | (at_builtin; refine wpList_append_own_at _ rfl _ _ 32 rfl 0 45 i0 (.agg #[.string ⟨#[]⟩, .string ⟨#[]⟩, .string ⟨#[]⟩, .bool false, .bool false, .int .i64 0, .int .i64 0, .int .i64 0, .string ⟨#[]⟩]) 9 96 Tryd.underlying32 hi45 hz0 hz1 hz2 rfl (by decide) _ _ _ rfl O3.out.own ⟨w2.heap.size, 0, none⟩ 1 1 (flatP [⟨pn, pc, px, pt, ph, pm, po, ps, pd⟩]) rfl rfl newsP (flatP_one _) (by unfold maxLen; omega) (by omega) (Nat.zero_le _) ?_)
              | fail)
            intro v4 w4 hown hgrow _ hat
            obtain ⟨a4, c4, hv4⟩ := own_shape hown
            subst hv4
            have hsz2 : (w2.alloc (.cells #[.string pn, .string pc, .string px, .bool pt, .bool ph, .int .i64 (pm : Nat), .int .i64 (po : Nat), .int .i64 (ps : Nat), .string pd] 45)).heap.size = w2.heap.size + 1 := by simp
            have S4 := hid (show RdT w w4 s most t' (m - pd.size) (.slice a4 (l.length + 1) c4) (l ++ [⟨pn, pc, px, pt, ph, pm, po, ps, pd⟩]) from
              ⟨HIN.out.2.1, O3.out.app _ T3.out.size hown (by rw [hsz2]; exact hat), HUP.out,
                T3.out.grown hgrow (fun k hk hlt => by have := O3.out.new k hk; omega),
                by rw [List.length_append]; simp; have := HMY.out; omega, by omega⟩)
            clear hown hgrow hat O3 T3
            have hbI : IntKind.i64.wrap ((m : Int) - (pd.size : Int)) = ((m - pd.size : Nat) : Int) := by rw [IntKind.wrap_i64]; omega
            go_wp2
            go_roundg g
            case measure => omega
            case rel => exact ⟨t', m - pd.size, l ++ [⟨pn, pc, px, pt, ph, pm, po, ps, pd⟩], by first | rfl | (congr 1; omega), rfl, by rw [show l.length + 1 = (l ++ [(⟨pn, pc, px, pt, ph, pm, po, ps, pd⟩ : Gz.Part)]).length by simp] at *; exact S4.out, by have := HIN.out; omega⟩
      · have hltI : ¬ ((t : Int) < (s.size : Int)) := by omega
        have HLT := hid (show s.size ≤ t by omega)
        clear hlt
        go_wp2
        refine bodyPost_ret (results_tmp3 rfl _ _ _) rfl ?_
        exact ⟨.ok l, ST.out.upto.fin HLT.out HL0.out, _, rfl, ST.out.own, ST.out.touch⟩
end Go.Proofs.YtohcngiiijokkaaDoor

/- What both Reads answer, and that two lists of the same parts are alike; conditions: those told. -/
namespace Go.Proofs.YtohcngiiijokkaaDoor
open Go.RowKit

/-- What Read tells, a bound below nothing among it. -/
def Ans (s : ByteArray) (most : Int) (l : List Gz.Part) (y : Gz.Bad) : Prop :=
  (most < 0 ∧ l = [] ∧ y = (1, 0)) ∨ ∃ m : Nat, most = (m : Int) ∧ ∃ r, Gz.Rd s 0 m 0 r ∧ (r = .error y ∧ l = [] ∨ r = .ok l ∧ y = (0, 0))
theorem Ans.det {s : ByteArray} {most : Int} {l l2 : List Gz.Part} {y y2 : Gz.Bad} (h : Ans s most l y) (h2 : Ans s most l2 y2) : l = l2 ∧ y = y2 := by
  rcases h with ⟨h0, rfl, rfl⟩ | ⟨m, rfl, r, hr, k⟩
  · rcases h2 with ⟨_, rfl, rfl⟩ | ⟨m, rfl, _⟩
    · exact ⟨rfl, rfl⟩
    · omega
  · rcases h2 with ⟨h0, _⟩ | ⟨m2, e2, r2, hr2, k2⟩
    · omega
    · obtain rfl : m = m2 := by omega
      obtain rfl := hr.same hr2
      rcases k with ⟨rfl, rfl⟩ | ⟨rfl, rfl⟩
      · rcases k2 with ⟨h, rfl⟩ | ⟨h, _⟩
        · cases h
          exact ⟨rfl, rfl⟩
        · cases h
      · rcases k2 with ⟨h, _⟩ | ⟨h, rfl⟩
        · cases h
        · cases h
          exact ⟨rfl, rfl⟩
theorem Ans.few {s : ByteArray} {most : Int} {l : List Gz.Part} {y : Gz.Bad} (h : Ans s most l y) : l.length ≤ 1024 := by
  rcases h with ⟨_, rfl, _⟩ | ⟨m, _, r, hr, ⟨_, rfl⟩ | ⟨h, _⟩⟩
  · simp
  · simp
  · exact Gz.rd_few hr h (Nat.zero_le _)
theorem r2post {w w' : World} {r : Except Gz.Bad (List Gz.Part)} {e : Ending} (h : R2Post w r e w') : ∃ a c l, ∃ y : Gz.Bad, e = .returned (.tuple #[.slice a l.length c, .int .i64 (y.1 : Nat), .int .i64 (y.2 : Nat)]) ∧ Pls w' a l ∧ Touch (fun _ => False) w w' ∧ (r = .error y ∧ l = [] ∨ r = .ok l ∧ y = (0, 0)) := by
  cases r with
  | error y =>
    obtain ⟨rfl, t⟩ := h
    exact ⟨none, 0, [], y, rfl, .inl rfl, t, .inl ⟨rfl, rfl⟩⟩
  | ok l =>
    obtain ⟨v, rfl, o, t⟩ := h
    obtain ⟨a, c, rfl, p⟩ := own_pls o.own
    exact ⟨a, c, l, (0, 0), rfl, p, t, .inr ⟨rfl, rfl⟩⟩
theorem read_all (s : ByteArray) (most : Int) (w : World) (hq : Quart w) (hs : s.size ≤ 140737488) (hm : most ≤ 9223372036854775807) :
    Calls Tryd.prog 6 #[.string s, .int .i64 most] w fun e w' => ∃ a c l, ∃ y : Gz.Bad, e = .returned (.tuple #[.slice a l.length c, .agg #[.int .i64 (y.1 : Nat), .int .i64 (y.2 : Nat)]]) ∧ Pls w' a l ∧ Touch (fun _ => False) w w' ∧ Ans s most l y := by
  by_cases h : most < 0
  · refine (read_neg s most w h).mono ?_
    rintro e w' ⟨rfl, t⟩
    exact ⟨none, 0, [], (1, 0), rfl, .inl rfl, t, .inl ⟨h, rfl, rfl⟩⟩
  · obtain ⟨m, rfl⟩ : ∃ m : Nat, most = (m : Int) := ⟨most.toNat, by omega⟩
    refine (read_any s m w hq hs (by omega)).mono ?_
    rintro e w' ⟨r, hr, hp⟩
    obtain ⟨a, c, l, y, rfl, p, t, k⟩ := rpost hp
    exact ⟨a, c, l, y, rfl, p, t, .inr ⟨m, rfl, r, hr, k⟩⟩
theorem rread_all (s : ByteArray) (most : Int) (w : World) (hs : s.size ≤ 140737488) (hm : most ≤ 9223372036854775807) :
    Calls Tryd.prog 7 #[.string s, .int .i64 most] w fun e w' => ∃ a c l, ∃ y : Gz.Bad, e = .returned (.tuple #[.slice a l.length c, .int .i64 (y.1 : Nat), .int .i64 (y.2 : Nat)]) ∧ Pls w' a l ∧ Touch (fun _ => False) w w' ∧ Ans s most l y := by
  by_cases h : most < 0
  · refine (rread_neg s most w h).mono ?_
    rintro e w' ⟨rfl, rfl⟩
    exact ⟨none, 0, [], (1, 0), rfl, .inl rfl, Touch.refl _ _, .inl ⟨h, rfl, rfl⟩⟩
  · obtain ⟨m, rfl⟩ : ∃ m : Nat, most = (m : Int) := ⟨most.toNat, by omega⟩
    refine (rread_any s m w hs (by omega)).mono ?_
    rintro e w' ⟨r, hr, hp⟩
    obtain ⟨a, c, l, y, rfl, p, t, k⟩ := r2post hp
    exact ⟨a, c, l, y, rfl, p, t, .inr ⟨m, rfl, r, hr, k⟩⟩
set_option maxRecDepth 100000 in
set_option maxHeartbeats 8000000 in
/-- Two lists of the same parts. -/
theorem parts_any (l : List Gz.Part) (a1 a2 : Option Addr) (c1 c2 : Nat) (w : World) (p1 : Pls w a1 l) (p2 : Pls w a2 l) (hl : l.length ≤ 1024) :
    Calls Tryd.prog 8 #[.slice a1 l.length c1, .slice a2 l.length c2] w fun e w' => e = .returned (.bool true) ∧ Touch (fun _ => False) w w' := by
  have P1 := hid p1
  have P2 := hid p2
  clear p1 p2
  obtain ⟨L, hL⟩ : ∃ L, L = l.length := ⟨_, rfl⟩
  rw [← hL]
  rw [← hL] at hl
  have HL := hid hL
  clear hL
  go_enter Tryd.func8, Tryd.ntmps8
  go_wp2_with fail
  go_loopg [5] L (fun gk v5 wq => ∃ k : Nat, v5 = .int .i64 (k : Nat) ∧ k + gk = L ∧ Touch (fun _ => False) w wq)
  case atStart => exact ⟨0, rfl, by omega, Touch.refl _ _⟩
  case round =>
    obtain ⟨k, rfl, hk, tc⟩ := hrel
    have TC := hid tc
    have PA := hid (P1.out.keep tc)
    have PB := hid (P2.out.keep tc)
    clear tc
    by_cases hlt : k < L
    · obtain ⟨gk, rfl⟩ : ∃ j, gk = j + 1 := ⟨gk - 1, by omega⟩
      have hltI : (k : Int) < (L : Int) := by omega
      go_upto_region 6 with fail
      go_cut [25] (fun v wd => v = .bool false ∧ Touch (fun _ => False) wr wd)
      case first =>
        obtain ⟨P, hP⟩ : ∃ P, l[k]? = some P := by
          have h1 : k < l.length := by have := HL.out; omega
          exact ⟨l[k], List.getElem?_eq_getElem h1⟩
        obtain ⟨b1, rfl, hc1⟩ := PA.out.at_ k (by have := HL.out; omega)
        obtain ⟨b3, rfl, hc3⟩ := PB.out.at_ k (by have := HL.out; omega)
        replace hc1 := hc1 P hP
        replace hc3 := hc3 P hP
        clear hP
        obtain ⟨pn, pc, px, pt, ph, pm, po, ps, pd⟩ := P
        have e0 : wr.cell? ⟨b1, k * 9, none⟩ = some (.string pn) := hc1 0 (by decide)
        have e1 : wr.cell? ⟨b1, k * 9 + 1, none⟩ = some (.string pc) := hc1 1 (by decide)
        have e2 : wr.cell? ⟨b1, k * 9 + 2, none⟩ = some (.string px) := hc1 2 (by decide)
        have e3 : wr.cell? ⟨b1, k * 9 + 3, none⟩ = some (.bool pt) := hc1 3 (by decide)
        have e4 : wr.cell? ⟨b1, k * 9 + 4, none⟩ = some (.bool ph) := hc1 4 (by decide)
        have e5 : wr.cell? ⟨b1, k * 9 + 5, none⟩ = some (.int .i64 (pm : Nat)) := hc1 5 (by decide)
        have e6 : wr.cell? ⟨b1, k * 9 + 6, none⟩ = some (.int .i64 (po : Nat)) := hc1 6 (by decide)
        have e7 : wr.cell? ⟨b1, k * 9 + 7, none⟩ = some (.int .i64 (ps : Nat)) := hc1 7 (by decide)
        have e8 : wr.cell? ⟨b1, k * 9 + 8, none⟩ = some (.string pd) := hc1 8 (by decide)
        have d0 : wr.cell? ⟨b3, k * 9, none⟩ = some (.string pn) := hc3 0 (by decide)
        have d1 : wr.cell? ⟨b3, k * 9 + 1, none⟩ = some (.string pc) := hc3 1 (by decide)
        have d2 : wr.cell? ⟨b3, k * 9 + 2, none⟩ = some (.string px) := hc3 2 (by decide)
        have d3 : wr.cell? ⟨b3, k * 9 + 3, none⟩ = some (.bool pt) := hc3 3 (by decide)
        have d4 : wr.cell? ⟨b3, k * 9 + 4, none⟩ = some (.bool ph) := hc3 4 (by decide)
        have d5 : wr.cell? ⟨b3, k * 9 + 5, none⟩ = some (.int .i64 (pm : Nat)) := hc3 5 (by decide)
        have d6 : wr.cell? ⟨b3, k * 9 + 6, none⟩ = some (.int .i64 (po : Nat)) := hc3 6 (by decide)
        have d7 : wr.cell? ⟨b3, k * 9 + 7, none⟩ = some (.int .i64 (ps : Nat)) := hc3 7 (by decide)
        have d8 : wr.cell? ⟨b3, k * 9 + 8, none⟩ = some (.string pd) := hc3 8 (by decide)
        clear hc1 hc3
        go_quiet (fail)
        go_wp2
        go_meet
        case rel => exact ⟨by first | rfl | simp, (Touch.refl _ _).drewN _⟩
      obtain ⟨rfl, tD⟩ := hcut
      have TD := hid (TC.out.trans tD (fun _ _ e => e))
      clear tD
      go_wp2
      go_roundg gk
      case measure => omega
      case rel => exact ⟨k + 1, by go_num, by omega, TD.out⟩
    · have hltI : ¬ ((k : Int) < (L : Int)) := by omega
      go_wp2
      go_ret
      exact ⟨rfl, TC.out⟩
end Go.Proofs.YtohcngiiijokkaaDoor
