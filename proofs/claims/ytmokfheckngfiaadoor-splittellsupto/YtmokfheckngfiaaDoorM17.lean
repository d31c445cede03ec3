/- Texts of this proof, one behind the other: what each says stands ahead of it. -/
import Derived.Test.YtmokfheckngfiaaDoorM16
import Derived.Test.YtmokfheckngfiaaDoorM6
/- count: into how many rows a text fits; conditions: those told. -/
namespace Go.Proofs.YtmokfheckngfiaaDoor
open Go.RowKit
open Go.Lib

set_option maxRecDepth 100000 in
set_option maxHeartbeats 8000000 in
theorem count_any (a : Option Addr) (cap : Nat) (zs : List (List S.R2)) (s : ByteArray) (w : World) (hl : RowsIn w a zs) (hb : zs.length ≤ 1114112) (h4 : ∀ z ∈ zs, z.length ≤ 4) :
    Calls Tryd.prog 26 #[.slice a zs.length cap, .string s] w fun e w' => e = .returned (.int .i64 ((zs.countP (fun z => fitLB z (bts s)) : Nat) : Int)) ∧ Touch (fun _ => False) w w' := by
  have HL := hid hl
  have H4 := hid h4
  clear hl h4
  go_enter Tryd.func26, Tryd.ntmps26
  go_wp2_with fail
  go_loopg [5, 6] zs.length (fun gk v5 v6 wr => ∃ k : Nat, k + gk = zs.length ∧ v6 = .int .i64 (k : Nat) ∧ v5 = .int .i64 (((zs.take k).countP (fun z => fitLB z (bts s)) : Nat) : Int) ∧ Touch (fun _ => False) w wr)
  case atStart => exact ⟨0, by omega, rfl, rfl, Touch.refl _ _⟩
  case round =>
    obtain ⟨k, hk, rfl, rfl, htc⟩ := hrel
    have TC := hid htc
    have R1 := hid (HL.out.new htc)
    clear htc
    by_cases hlt : k < zs.length
    · have hkI : (k : Int) < (zs.length : Int) := by omega
      obtain ⟨b, o, ha, hbl, hcell⟩ : ∃ b o, a = some ⟨b, o, none⟩ ∧ b < wr.heap.size ∧ ∀ i (h : i < zs.length), ∃ ai ci, wr.cell? ⟨b, o + i, none⟩ = some (.slice ai (zs[i]).length ci) ∧ S.Rg wr ai zs[i] := by
        rcases R1.out with h | h
        · rw [h] at hlt; simp at hlt
        · exact h
      subst ha
      obtain ⟨ai, ci, d0, hrg⟩ := hcell k hlt
      have h4 := H4.out zs[k] (List.getElem_mem _)
      have HST := hid (show (zs.take (k + 1)).countP (fun z => fitLB z (bts s)) = (zs.take k).countP (fun z => fitLB z (bts s)) + (if fitLB zs[k] (bts s) = true then 1 else 0) by
        rw [List.take_succ_eq_append_getElem hlt, List.countP_append, List.countP_singleton])
      have hcb : (zs.take k).countP (fun z => fitLB z (bts s)) ≤ k := by
        refine Nat.le_trans List.countP_le_length ?_
        rw [List.length_take]
        omega
      obtain ⟨C, hC⟩ : ∃ C, C = (zs.take k).countP (fun z => fitLB z (bts s)) := ⟨_, rfl⟩
      obtain ⟨z, hz⟩ : ∃ z, z = zs[k] := ⟨_, rfl⟩
      rw [← hz] at d0 hrg HST h4
      rw [← hC] at HST hcb ⊢
      have RG := hid hrg
      clear hC hz hcell R1 hrg
      by_cases hn : s.size = z.length
      · have hnI : (z.length : Int) = (s.size : Int) := by omega
        have KH := hid (rowHas_any ai ci z s wr RG.out hn h4)
        have HFF := hid (fitFrom_iff hn)
        go_wp2_with fail
        generalize wr = wo at *
        obtain ⟨g1, rfl⟩ : ∃ j, gk = j + 1 := ⟨gk - 1, by omega⟩
        go_loopg [7, 8] (z.length + 1) (fun gj v7 v8 wq => ∃ j : Nat, ∃ B : Bool, v8 = .int .i64 (j : Nat) ∧ v7 = .bool B ∧ j ≤ z.length ∧ j + gj = z.length + 1 ∧ ((B = true ∧ fitFrom z s j) ∨ (B = false ∧ ¬ fitFrom z s z.length)) ∧ Touch (fun _ => False) wo wq)
        case atStart => exact ⟨0, true, rfl, by simp, by omega, by omega, .inl ⟨rfl, fun k _ _ h => by omega⟩, Touch.refl _ _⟩
        case round =>
          obtain ⟨j, B, rfl, rfl, hjz, hjg, hBB, htn⟩ := hrel
          have d0' : wr.cell? ⟨b, o + k, none⟩ = some (.slice ai z.length ci) := (htn.cell (p := ⟨b, o + k, none⟩) hbl id).trans d0
          have TN := hid htn
          have TCn := hid (TC.out.trans htn (fun _ _ e => e))
          have RGn := hid (RG.out.new htn)
          have KHn := hid (rowHas_any ai ci z s wr RGn.out hn h4)
          clear htn
          generalize wr = wn at *
          rcases hBB with ⟨rfl, hB1⟩ | ⟨rfl, hB2⟩
          rotate_left
          · have NF := hid hB2
            clear hB2
            have HF := hid (show fitLB z (bts s) = false from Bool.eq_false_iff.2 (fun e => NF.out (HFF.out.2 e)))
            go_wp2_with fail
            refine KHn.out.mono ?_
            rintro e w7 ⟨⟨c, rfl, hc⟩, t7⟩
            obtain rfl : c = false := Bool.eq_false_iff.2 (fun e => NF.out (hc.1 e))
            have T7 := hid (TCn.out.trans t7 (fun _ _ e => e))
            have HS2 := hid (show (zs.take (k + 1)).countP (fun z => fitLB z (bts s)) = C by rw [HST.out, HF.out]; rfl)
            clear t7 hc
            go_wp2
            go_roundg g1
            case measure => omega
            case rel => exact ⟨k + 1, by omega, by go_num, by rw [HS2.out], T7.out⟩
          · have B1 := hid hB1
            clear hB1
            by_cases hjl : j < z.length
            · obtain ⟨b4, o4, ha4, hb4, hcell4⟩ : ∃ b o, ai = some ⟨b, o, none⟩ ∧ b < wn.heap.size ∧ ∀ i (h : i < z.length), wn.cell? ⟨b, o + i * 2, none⟩ = some (.int .i64 (z[i]).1) ∧ wn.cell? ⟨b, o + i * 2 + 1, none⟩ = some (.int .i64 (z[i]).2) := by
                rcases RGn.out with h | h
                · rw [h] at hjl; simp at hjl
                · exact h
              subst ha4
              obtain ⟨e0, e1⟩ := hcell4 j hjl
              have hjs : j < s.size := by omega
              have hjsI : (j : Int) < (s.size : Int) := by omega
              have hjI : (j : Int) < (z.length : Int) := by omega
              obtain ⟨u, hu⟩ : ∃ u : Nat, u = s[j].toNat := ⟨_, rfl⟩
              have hbu : s[j].toNat = u := hu.symm
              have lu : u < 256 := by rw [hu]; exact UInt8.toNat_lt _
              have wu : IntKind.i64.wrap (u : Int) = (u : Int) := by rw [IntKind.wrap_i64]; omega
              obtain ⟨r, hr⟩ : ∃ r, r = z[j] := ⟨_, rfl⟩
              have HR := hid hr
              have HU := hid hbu
              rw [← hr] at e0 e1
              obtain ⟨x, y⟩ := r
              dsimp only at e0 e1
              have NEXT := hid (show fitFrom z s (j + 1) ↔ x ≤ (u : Int) ∧ (u : Int) ≤ y from by
                constructor
                · intro h
                  have := h j hjl hjs (by omega)
                  rw [← HR.out, HU.out] at this
                  exact this
                · intro h i hi hi' hlt2
                  rcases Nat.lt_or_ge i j with q | q
                  · exact B1.out i hi hi' q
                  · obtain rfl : i = j := by omega
                    rw [← HR.out, HU.out]
                    exact h)
              have NOPE := hid (show ¬ fitFrom z s (j + 1) → ¬ fitFrom z s z.length from fun h g => h (fun i hi hi' _ => g i hi hi' hi))
              clear hcell4 hr hu
              by_cases h1 : x ≤ (u : Int)
              · have hd1 : decide (x ≤ (u : Int)) = true := decide_eq_true h1
                by_cases h2 : (u : Int) ≤ y
                · have hd2 : decide ((u : Int) ≤ y) = true := decide_eq_true h2
                  go_upto_region 9 with fail
                  go_quiet (fail)
                  go_wp2
                  go_roundg (gk - 1)
                  case measure => omega
                  case rel => exact ⟨j + 1, true, by go_num, by first | rfl | simp [h1, h2], by omega, by omega, .inl ⟨rfl, NEXT.out.2 ⟨h1, h2⟩⟩, by first | exact TN.out.drewN _ | exact TN.out.drew⟩
                · have hd2 : decide ((u : Int) ≤ y) = false := decide_eq_false h2
                  go_upto_region 9 with fail
                  go_quiet (fail)
                  go_wp2
                  go_roundg (gk - 1)
                  case measure => omega
                  case rel => exact ⟨j + 1, false, by go_num, by first | rfl | simp [h1, h2], by omega, by omega, .inr ⟨rfl, NOPE.out (fun g => by have := (NEXT.out.1 g).2; omega)⟩, by first | exact TN.out.drewN _ | exact TN.out.drew⟩
              · have hd1 : decide (x ≤ (u : Int)) = false := decide_eq_false h1
                go_upto_region 9 with fail
                go_quiet (fail)
                go_wp2
                go_roundg (gk - 1)
                case measure => omega
                case rel => exact ⟨j + 1, false, by go_num, by first | rfl | simp [h1], by omega, by omega, .inr ⟨rfl, NOPE.out (fun g => by have := (NEXT.out.1 g).1; omega)⟩, by first | exact TN.out.drewN _ | exact TN.out.drew⟩
            · obtain rfl : j = z.length := by omega
              have HF := hid (HFF.out.1 (B1.out))
              go_wp2_with fail
              refine KHn.out.mono ?_
              rintro e w7 ⟨⟨c, rfl, hc⟩, t7⟩
              obtain rfl : c = true := hc.2 (B1.out)
              have T7 := hid (TCn.out.trans t7 (fun _ _ e => e))
              have HS2 := hid (show (zs.take (k + 1)).countP (fun z => fitLB z (bts s)) = C + 1 by rw [HST.out, HF.out]; rfl)
              clear t7 hc
              go_wp2
              go_roundg g1
              case measure => omega
              case rel => exact ⟨k + 1, by omega, by go_num, by rw [HS2.out]; go_num, T7.out⟩
      · have hnI : ¬ ((z.length : Int) = (s.size : Int)) := by omega
        have KH := hid (rowHas_short ai ci z s wr (by omega))
        have HF := hid (fitLB_len (z := z) (s := s) (by omega))
        have HS2 := hid (show (zs.take (k + 1)).countP (fun z => fitLB z (bts s)) = C by rw [HST.out, HF.out]; rfl)
        go_wp2_with fail
        generalize wr = wo at *
        obtain ⟨g1, rfl⟩ : ∃ j, gk = j + 1 := ⟨gk - 1, by omega⟩
        go_loopg [7, 8] 1 (fun gj v7 v8 wq => gj = 1 ∧ v8 = .int .i64 0 ∧ v7 = .bool false ∧ wq = wo)
        case atStart => exact ⟨rfl, rfl, by simp [hnI], rfl⟩
        case round =>
          obtain ⟨_, rfl, rfl, rfl⟩ := hrel
          go_wp2_with fail
          refine KH.out.mono ?_
          rintro e w7 ⟨rfl, t7⟩
          have T7 := hid (TC.out.trans t7 (fun _ _ e => e))
          clear t7
          go_wp2
          go_roundg g1
          case measure => omega
          case rel => exact ⟨k + 1, by omega, by go_num, by rw [HS2.out], T7.out⟩
    · obtain rfl : k = zs.length := by omega
      rw [List.take_length]
      obtain ⟨C, hC⟩ : ∃ C, C = zs.countP (fun z => fitLB z (bts s)) := ⟨_, rfl⟩
      have HC := hid hC
      rw [← hC]
      clear hC
      go_wp2
      go_ret
      exact ⟨by rw [← HC.out]; rfl, TC.out⟩
end Go.Proofs.YtmokfheckngfiaaDoor

/- The document's In; conditions: those told. -/
namespace Go.Proofs.YtmokfheckngfiaaDoor.S
open Go.RowKit
open Go.Lib

theorem hasB_step (l : List R2) (k : Nat) (h : k < l.length) (x : Int) : hasB x (l.take (k + 1)) = (hasB x (l.take k) || (decide ((l[k]).1 ≤ x) && decide (x ≤ (l[k]).2))) := by
  unfold hasB
  rw [List.take_succ_eq_append_getElem h, List.any_append]
  simp only [List.any_cons, List.any_nil, Bool.or_false]
theorem hasB_found (l : List R2) (k : Nat) (h : k < l.length) (x : Int) (h1 : (l[k]).1 ≤ x) (h2 : x ≤ (l[k]).2) : hasB x l = true := hasB_iff.2 ⟨l[k], List.getElem_mem _, h1, h2⟩

set_option maxRecDepth 100000 in
set_option maxHeartbeats 4000000 in
theorem in_any (a : Option Addr) (cap : Nat) (l : List R2) (x : Int) (w : World) (hl : Rg w a l) (hb : l.length ≤ 140737488351232) :
    Calls Tryd.prog 27 #[.slice a l.length cap, .int .i64 x] w fun e w' => e = .returned (.bool (hasB x l)) ∧ Touch (fun _ => False) w w' := by
  have HL := hid hl
  clear hl
  go_enter Tryd.func27, Tryd.ntmps27
  go_wp2_with fail
  go_loopg [5] l.length (fun gk i wr => ∃ k : Nat, k + gk = l.length ∧ i = .int .i64 (k : Nat) ∧ hasB x (l.take k) = false ∧ w = wr)
  case atStart => exact ⟨0, by omega, rfl, rfl, rfl⟩
  case round =>
    obtain ⟨k, hk, rfl, hno, rfl⟩ := hrel
    have HN := hid hno
    clear hno
    by_cases hlt : k < l.length
    · obtain ⟨b, o, ha, hbl, hcell⟩ : ∃ b o, a = some ⟨b, o, none⟩ ∧ b < w.heap.size ∧ ∀ i (h : i < l.length), w.cell? ⟨b, o + i * 2, none⟩ = some (.int .i64 (l[i]).1) ∧ w.cell? ⟨b, o + i * 2 + 1, none⟩ = some (.int .i64 (l[i]).2) := by
        rcases HL.out with h | h
        · rw [h] at hlt; simp at hlt
        · exact h
      subst ha
      obtain ⟨d0, d1⟩ := hcell k hlt
      have HS := hid (hasB_step l k hlt x)
      have HF := hid (hasB_found l k hlt x)
      rw [HN.out] at HS
      obtain ⟨r, hr⟩ : ∃ r, r = l[k] := ⟨_, rfl⟩
      rw [← hr] at d0 d1 HS HF
      obtain ⟨y, z⟩ := r
      dsimp only at d0 d1 HS HF
      have hkI : (k : Int) < (l.length : Int) := by omega
      clear hcell hr
      by_cases h1 : y ≤ x
      · by_cases h2 : x ≤ z
        · have HT := hid (HF.out h1 h2)
          go_wp2
          go_ret
          rw [HT.out]
          exact ⟨rfl, Touch.refl _ _⟩
        · have HH := hid (show hasB x (l.take (k + 1)) = false by rw [HS.out]; simp [h2])
          go_wp2
          go_roundg (gk - 1)
          case measure => omega
          case rel => exact ⟨k + 1, by omega, by go_num, HH.out, rfl⟩
      · have HH := hid (show hasB x (l.take (k + 1)) = false by rw [HS.out]; simp [h1])
        go_wp2
        go_roundg (gk - 1)
        case measure => omega
        case rel => exact ⟨k + 1, by omega, by go_num, HH.out, rfl⟩
    · obtain rfl : k = l.length := by omega
      rw [List.take_length] at HN
      go_wp2
      go_ret
      rw [HN.out]
      exact ⟨rfl, Touch.refl _ _⟩

end Go.Proofs.YtmokfheckngfiaaDoor.S
