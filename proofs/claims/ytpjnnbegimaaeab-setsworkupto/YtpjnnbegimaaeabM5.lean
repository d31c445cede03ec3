/- Texts of this proof, one behind the other: what each says stands ahead of it. -/
import Derived.Test.YtpjnnbegimaaeabM4
/- The document's Edges of a list of ranges: what it answers; no condition beside those told. -/
namespace Go.Proofs.Ytpjnnbegimaaeab
open Go.RowKit

theorem part_take (l : List R2) (last : Int) (h : last < 1114112) (k : Nat) : last < (l.take k).foldl (estep last) 1114112 ∧ (l.take k).foldl (estep last) 1114112 ≤ 1114112 := by
  have := fold_edge (l.take k) last 1114112 h
  exact ⟨this.2.1, this.1⟩

set_option maxRecDepth 100000 in
set_option maxHeartbeats 8000000 in
theorem edges_any (a : Option Addr) (cap : Nat) (l : List R2) (w : World) (hl : Rg w a l) (hb : l.length ≤ 140737488351232) :
    Calls Try.prog 30 #[.slice a l.length cap] w fun e w' => ∃ v es, e = .returned v ∧ es ≠ [] ∧ es.length ≤ 1114112 ∧ Edgy l (es ++ [1114112]) ∧ OwI w w' v es := by
  obtain ⟨i0, hi3, hz0, hz1, hz2⟩ := info_parts info3
  have HL := hid hl
  have O1 := hid (OwI.one w 0)
  clear hl
  go_enter Try.func30, Try.ntmps30
  go_wp2_with fail
  go_loopg [3] 1114112 (fun gk v wr => ∃ (p : List Int) (last : Int), (gk : Int) = 1114112 - last ∧ 0 ≤ last ∧ last < 1114112 ∧ p.length + 1 ≤ 1114112 ∧ Edgy l (p ++ [last]) ∧ OwI w wr v (p ++ [last]))
  case atStart => exact ⟨[], 0, rfl, Int.le_refl _, by decide, by decide, Edgy.one l, O1.out⟩
  case round =>
    obtain ⟨p, last, hgk, h0, hlast, hpl, hed, how⟩ := hrel
    have HED := hid hed
    have OW := hid how
    have HLR := hid (HL.out.new how.touch)
    obtain ⟨av, cv, hv, ig⟩ := how.ig (by simp)
    subst hv
    obtain ⟨ab, rfl, hab, hig⟩ := ig
    have c0 := hig p.length (by simp)
    rw [show (p ++ [last])[p.length]'(by simp) = last by simp] at c0
    have hpe : (p ++ [last]).length = p.length + 1 := by simp
    rw [hpe] at OW ⊢
    obtain ⟨G, hG⟩ : ∃ G, G = gk := ⟨_, rfl⟩
    rw [← hG] at hgk
    have HG := hid hG
    have HGK := hid hgk
    clear hed how hig hpe hG
    · clear hgk
      go_wp2_with fail
      go_loopg [5, 6] l.length (fun gk n i wq => ∃ k : Nat, k + gk = l.length ∧ i = .int .i64 (k : Nat) ∧ n = .int .i64 ((l.take k).foldl (estep last) 1114112) ∧ wr = wq)
      case atStart => exact ⟨0, by omega, rfl, rfl, rfl⟩
      case round =>
        obtain ⟨k, hk, rfl, rfl, rfl⟩ := hrel
        have hnx := part_take l last hlast k
        by_cases hlt : k < l.length
        · obtain ⟨b, o, ha, hbl, hcell⟩ : ∃ b o, a = some ⟨b, o, none⟩ ∧ b < wr.heap.size ∧ ∀ i (h : i < l.length), wr.cell? ⟨b, o + i * 2, none⟩ = some (.int .i64 (l[i]).1) ∧ wr.cell? ⟨b, o + i * 2 + 1, none⟩ = some (.int .i64 (l[i]).2) := by
            rcases HLR.out with h | h
            · rw [h] at hlt; simp at hlt
            · exact h
          subst ha
          obtain ⟨d0, d1⟩ := hcell k hlt
          have HS := hid (estep_take l last k hlt)
          obtain ⟨r, hr⟩ : ∃ r, r = l[k] := ⟨_, rfl⟩
          rw [← hr] at d0 d1 HS
          obtain ⟨y, z⟩ := r
          dsimp only at d0 d1
          obtain ⟨nx, hn⟩ : ∃ nx, nx = (l.take k).foldl (estep last) 1114112 := ⟨_, rfl⟩
          rw [← hn] at HS hnx ⊢
          have hkI : (k : Int) < (l.length : Int) := by omega
          obtain ⟨n1, hn1⟩ : ∃ n1, n1 = if last < y ∧ y < nx then y else nx := ⟨_, rfl⟩
          have HN1 := hid hn1
          have HE := hid (show estep last nx (y, z) = if last ≤ z ∧ z < n1 - 1 then z + 1 else n1 by unfold estep; dsimp only; rw [← hn1])
          have hn1b : last < n1 ∧ n1 ≤ 1114112 := by rw [hn1]; split <;> omega
          clear hcell hr hn hn1
          have HZ := hid (show estep last nx (y, z) = estep last nx (y, z) from rfl)
          rw [HE.out] at HS
          clear HZ HE
          by_cases h1 : last < y
          · by_cases h2 : y < nx
            · obtain rfl : n1 = y := by rw [HN1.out, if_pos ⟨h1, h2⟩]
              clear HN1
              by_cases h3 : last ≤ z
              · by_cases h4 : z < n1 - 1
                · have HS2 := hid (HS.out.trans (if_pos ⟨h3, h4⟩))
                  go_wp2_with fail
                  go_roundg (gk - 1)
                  case measure => omega
                  case rel => exact ⟨k + 1, by omega, by go_num, by rw [HS2.out], rfl⟩
                · have HS2 := hid (HS.out.trans (if_neg (fun h => h4 h.2)))
                  go_wp2_with fail
                  go_roundg (gk - 1)
                  case measure => omega
                  case rel => exact ⟨k + 1, by omega, by go_num, by rw [HS2.out], rfl⟩
              · have HS2 := hid (HS.out.trans (if_neg (fun h => h3 h.1)))
                go_wp2_with fail
                go_roundg (gk - 1)
                case measure => omega
                case rel => exact ⟨k + 1, by omega, by go_num, by rw [HS2.out], rfl⟩
            · obtain rfl : n1 = nx := by rw [HN1.out, if_neg (fun h => h2 h.2)]
              clear HN1
              by_cases h3 : last ≤ z
              · by_cases h4 : z < n1 - 1
                · have HS2 := hid (HS.out.trans (if_pos ⟨h3, h4⟩))
                  go_wp2_with fail
                  go_roundg (gk - 1)
                  case measure => omega
                  case rel => exact ⟨k + 1, by omega, by go_num, by rw [HS2.out], rfl⟩
                · have HS2 := hid (HS.out.trans (if_neg (fun h => h4 h.2)))
                  go_wp2_with fail
                  go_roundg (gk - 1)
                  case measure => omega
                  case rel => exact ⟨k + 1, by omega, by go_num, by rw [HS2.out], rfl⟩
              · have HS2 := hid (HS.out.trans (if_neg (fun h => h3 h.1)))
                go_wp2_with fail
                go_roundg (gk - 1)
                case measure => omega
                case rel => exact ⟨k + 1, by omega, by go_num, by rw [HS2.out], rfl⟩
          · obtain rfl : n1 = nx := by rw [HN1.out, if_neg (fun h => h1 h.1)]
            clear HN1
            by_cases h3 : last ≤ z
            · by_cases h4 : z < n1 - 1
              · have HS2 := hid (HS.out.trans (if_pos ⟨h3, h4⟩))
                go_wp2_with fail
                go_roundg (gk - 1)
                case measure => omega
                case rel => exact ⟨k + 1, by omega, by go_num, by rw [HS2.out], rfl⟩
              · have HS2 := hid (HS.out.trans (if_neg (fun h => h4 h.2)))
                go_wp2_with fail
                go_roundg (gk - 1)
                case measure => omega
                case rel => exact ⟨k + 1, by omega, by go_num, by rw [HS2.out], rfl⟩
            · have HS2 := hid (HS.out.trans (if_neg (fun h => h3 h.1)))
              go_wp2_with fail
              go_roundg (gk - 1)
              case measure => omega
              case rel => exact ⟨k + 1, by omega, by go_num, by rw [HS2.out], rfl⟩
        · obtain rfl : k = l.length := by omega
          have HNG := hid (nextE_good last l hlast)
          rw [List.take_length] at hnx ⊢
          have HNE := hid (show (l.foldl (estep last) 1114112) = nextE last l from rfl)
          rw [HNE.out] at hnx ⊢
          obtain ⟨nx, hn⟩ : ∃ nx, nx = nextE last l := ⟨_, rfl⟩
          rw [← hn] at HNG hnx ⊢
          clear hn HNE
          by_cases hend : nx = 1114112
          · subst hend
            go_wp2_with fail
            go_ret
            exact ⟨_, p ++ [last], rfl, by simp, by simp; omega, HED.out.more HNG.out.2.1 HNG.out.2.2, by first | exact OW.out | (have := OW.out; simpa using this)⟩
          · have hne : (nx == 1114112) = false := by simp [hend]
            have hed2 : decide (nx = 1114112) = false := decide_eq_false hend
            go_wp2_with (at_builtin; refine wpList_append_own_at _ rfl _ _ 56 rfl 0 3 i0 (.int .i64 0) 1 8 Try.underlying56 hi3 hz0 hz1 hz2 rfl (by decide) _ _ _ rfl (OW.out.own.alloc _) ⟨wr.heap.size, 0, none⟩ 1 1 [.int .i64 nx] rfl rfl (row_new wr [.int .i64 nx] 3) (by intro u hu; simp at hu; subst hu; rfl) (by unfold maxLen; simp; omega) (by simp; omega) (Nat.zero_le _) ?_)
            intro v' w4 hown hgrow _ hat
            have OC := hid (OW.out.more (by rw [List.length_append]; exact hown) hgrow hat)
            clear hown hgrow hat
            have HED2 := hid (HED.out.more HNG.out.2.1 HNG.out.2.2)
            go_wp2
            go_roundg (1114112 - nx).toNat
            case measure => have h1 := HG.out; have h2 := HGK.out; omega
            case rel =>
              refine ⟨p ++ [last], nx, by omega, by omega, by omega, ?_, HED2.out, OC.out⟩
              have h5 := HED2.out.low (p.length + 1) nx (by simp)
              simp
              omega
end Go.Proofs.Ytpjnnbegimaaeab
