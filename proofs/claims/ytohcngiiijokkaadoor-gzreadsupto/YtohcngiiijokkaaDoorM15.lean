/- Texts of this proof, one behind the other: what each says stands ahead of it. -/
import Derived.Test.YtohcngiiijokkaaDoorM2
import Derived.Test.YtohcngiiijokkaaDoorM14
import Derived.BigQuiet
/- The document's answer: the codes of lengths, or what is wrong with them; conditions: at most 1024 lengths. -/
namespace Go.Proofs.YtohcngiiijokkaaDoor
open Go.RowKit

theorem rc_used_zero (f : Nat → Nat) : ∀ k, usedTo f k = 0 → rm f k = 0
  | 0, _ => rfl
  | k + 1, h => by
    rw [usedTo] at h
    have h1 := rc_used_zero f k (by omega)
    by_cases e : f k = 0
    · rw [rm, h1, if_pos e]
    · rw [if_neg e] at h; omega

/-- The codes given so far: of lengths below n, and of length n below s. -/
def refTo (c f : Nat → Nat) (len n s : Nat) : List Nat := (List.range len).map fun i => if 0 < f i ∧ (f i < n ∨ (f i = n ∧ i < s)) then codeOf c f i else 0

theorem refTo_zero (c f : Nat → Nat) (len : Nat) : natsV (refTo c f len 1 0) = List.replicate len (.int .i64 0) := by
  apply List.ext_getElem
  · simp [natsV, refTo]
  · intro i h1 h2
    simp only [natsV, refTo, List.map_map, List.getElem_map, List.getElem_range, Function.comp_def, List.getElem_replicate]
    rw [if_neg (by omega)]
    rfl
theorem refTo_all (c f : Nat → Nat) (hf : ∀ i, f i ≤ 15) (len : Nat) : refTo c f len 16 0 = (List.range len).map (codeOf c f) := by
  apply List.map_congr_left
  intro i _
  have := hf i
  by_cases e : 0 < f i
  · rw [if_pos ⟨e, by omega⟩]
  · rw [if_neg (by omega), codeOf, if_pos (by omega)]
theorem refTo_next (c f : Nat → Nat) (len n : Nat) : refTo c f len n len = refTo c f len (n + 1) 0 := by
  apply List.map_congr_left
  intro i hi
  have hi' : i < len := by simpa using hi
  by_cases e : 0 < f i ∧ f i < n + 1
  · rw [if_pos (by omega), if_pos (by omega)]
  · rw [if_neg (by omega), if_neg (by omega)]
theorem refTo_skip (c f : Nat → Nat) (len n s : Nat) (h : f s ≠ n) : refTo c f len n (s + 1) = refTo c f len n s := by
  apply List.map_congr_left
  intro i _
  by_cases e : i = s
  · subst e
    by_cases e2 : 0 < f i ∧ f i < n
    · rw [if_pos (by omega), if_pos (by omega)]
    · rw [if_neg (by omega), if_neg (by omega)]
  · by_cases e2 : 0 < f i ∧ (f i < n ∨ (f i = n ∧ i < s))
    · rw [if_pos (by omega), if_pos e2]
    · rw [if_neg (by omega), if_neg e2]
theorem refTo_set (c f : Nat → Nat) (len n s : Nat) (h : f s = n) (hn : 0 < n) : refTo c f len n (s + 1) = (refTo c f len n s).set s (codeOf c f s) := by
  apply List.ext_getElem
  · simp [refTo]
  · intro i h1 h2
    simp only [refTo, List.getElem_map, List.getElem_range, List.getElem_set]
    by_cases e : s = i
    · subst e
      rw [if_pos (by omega), if_pos rfl]
    · rw [if_neg e]
      by_cases e2 : 0 < f i ∧ (f i < n ∨ (f i = n ∧ i < s))
      · rw [if_pos (by omega), if_pos e2]
      · rw [if_neg (by omega), if_neg e2]
theorem length_refTo (c f : Nat → Nat) (len n s : Nat) : (refTo c f len n s).length = len := by simp [refTo]

theorem Nx.bound {c f : Nat → Nat} {n s code last : Nat} (h : Nx c f n s code last) (hc : ∀ i, c i ≤ 1024) (hn : n ≤ 15) (hs : s ≤ 1024) : code + 1 ≤ 67200000 ∧ (if last = 0 then 0 else (code + 1) * 2 ^ (n - last)) ≤ 67200000 := by
  obtain ⟨h1, h2, h3⟩ := h
  have a1 := firsts_le c hc n
  have a2 := cntTo_le f n s
  have a3 : 2 ^ n ≤ 2 ^ 15 := Nat.pow_le_pow_right (by decide) hn
  by_cases e : last = 0
  · rw [if_pos e, h2 e]; omega
  · rw [if_neg e] at h3 ⊢
    have a4 : 0 < 2 ^ (n - last) := Nat.pow_pos (by decide)
    have a5 : (code + 1) * 1 ≤ (code + 1) * 2 ^ (n - last) := Nat.mul_le_mul_left _ a4
    omega

set_option maxRecDepth 100000 in
set_option maxHeartbeats 8000000 in
theorem refnew_codes (a : Option Addr) (len cap : Nat) (f : Nat → Nat) (w : World) (hl : len ≤ 1024) (hf : ∀ i, f i ≤ 15) (hi : Ints w a len (fun i => (f i : Nat))) (he : errOf f len = 0) :
    Calls Tryd.prog 41 #[.slice a len cap] w fun e w' => ∃ v, e = .returned (.tuple #[v, .int .i64 0]) ∧ w'.ownsRow w.heap.size 3 1 v len (natsV ((List.range len).map (codeOf (cOf f len) f))) ∧ Touch (fun _ => False) w w' := by
  obtain ⟨i0, hin, hz0, hz1, hz2⟩ := info_parts info3
  have HF := hid hf
  have HI := hid hi
  have HE := hid he
  clear hf hi he
  go_enter Tryd.func41, Tryd.ntmps41
  go_wp2_with fail
  go_loop [4, 5, 6] (fun r u i => ∃ k : Nat, k ≤ len ∧ i = .int .i64 k ∧ r = .int .i64 (rm f k : Nat) ∧ u = .int .i64 (usedTo f k : Nat)) (fun _ _ i => len - (intOf i).toNat)
  case atStart => exact ⟨0, Nat.zero_le _, rfl, rfl, rfl⟩
  case round =>
    obtain ⟨k, hk, rfl, rfl, rfl⟩ := hrel
    have hrl := rm_le f k
    have hul := used_le f k
    by_cases hlt : k < len
    · rcases HI.out with h | ⟨b, o, ha, hb, hcell⟩
      · omega
      · subst ha
        have d0 : w.cell? ⟨b, o + k, none⟩ = some (.int .i64 (f k : Nat)) := hcell k hlt
        have hfk := HF.out k
        clear hcell
        by_cases h0 : f k = 0
        · rw [h0] at d0
          have H0 := hid h0
          clear h0 hfk
          go_wp2
          go_round
          case rel => exact ⟨k + 1, by omega, by go_num, by rw [rm, if_pos H0.out, Nat.add_zero], by rw [usedTo, if_pos H0.out, Nat.add_zero]⟩
          case measure => simp [intOf]; omega
        · have hst := hid (ref_step f k h0 (by omega))
          have hus : usedTo f (k + 1) = usedTo f k + 1 := by rw [usedTo, if_neg h0]
          have HUS := hid hus
          have hp : (0 : Int) < (f k : Int) := by omega
          have hs : (0 : Int) ≤ 15 - (f k : Int) := by omega
          have hn1 : ¬ (f k : Int) < 0 := by omega
          have hn2 : ¬ (15 : Int) < (f k : Int) := by omega
          clear hus h0
          go_wp2
          go_round
          case rel => exact ⟨k + 1, by omega, by go_num, by rw [hst.out], by rw [HUS.out]; go_num⟩
          case measure => simp [intOf]; omega
    · obtain rfl : k = len := by omega
      have RR := HE.out
      unfold errOf at RR
      have hz := rc_used_zero f k
      generalize hrt : rm f k = rt at *
      generalize hst : usedTo f k = st at *
      clear hrt hst
      have e1 : ¬ 32768 < rt := by intro h; rw [if_pos h] at RR; omega
      have e2 : ¬ (rt < 32768 ∧ 0 < st ∧ ¬ (st = 1 ∧ rt = 16384)) := by intro h; rw [if_neg e1, if_pos h] at RR; omega
      clear RR HE hrl hul
      have q1 : ¬ (32768 : Int) < (rt : Int) := by omega
      have HC : Hid (∀ i, cOf f k i ≤ 1024) := fun i => Nat.le_trans (cOf_le f k i) hl
      rcases (show rt = 32768 ∨ (rt < 32768 ∧ st = 0) ∨ (rt = 16384 ∧ st = 1) by omega) with h | ⟨h, h'⟩ | ⟨h, h'⟩
      · have q2 : ¬ (rt : Int) < 32768 := by omega
        have q3 : ((rt : Int) == 16384) = false := by simp; omega
        clear h e1 e2 hz
        by_cases e4 : st = 1
        · have q4 : ((st : Int) == 1) = true := by simp; omega
          clear e4
          go_wp2_with (first
            | (at_make; refine wpList_make_full _ rfl _ _ 72 rfl w.heap.size 3 i0 (.int .i64 0) 1 Tryd.underlying72 hin hz0 hz1 .i64 .i64 _ _ k rfl rfl rfl rfl (by rw [hz2]; omega) (by unfold maxLen; omega) (Nat.le_refl _) ?_))
          intro w2 hown hgrow
          rw [toList_madeCells_one] at hown
          have T2 : Hid (Touch (fun _ => False) w w2) := (Touch.refl _ w).grown hgrow (fun k e => by simp at e)
          have O2 := hid hown
          clear hown hgrow
          go_wp2_with fail
          go_loopw [9, 10, 11] (fun cd la i wr => ∃ m code last : Nat, m ≤ 15 ∧ i = .int .i64 (m + 1) ∧ cd = .int .i64 code ∧ la = .int .i64 last ∧ Nx (cOf f k) f (m + 1) 0 code last ∧ wr.ownsRow w.heap.size 3 1 (.slice (some ⟨w.heap.size, 0, none⟩) k k) k (natsV (refTo (cOf f k) f k (m + 1) 0)) ∧ Touch (fun _ => False) w wr) (fun _ _ i _ => 16 - (intOf i).toNat)
          case atStart => exact ⟨0, 0, 0, by decide, rfl, rfl, rfl, Nx.start _ _ rfl, by rw [refTo_zero]; exact O2.out, T2.out⟩
          case round =>
            obtain ⟨m, code, last, hm, rfl, rfl, rfl, hnx, ho, ht⟩ := hrel
            have NX := hid hnx
            have O3 := hid ho
            have T3 := hid ht
            clear hnx ho ht O2 T2
            by_cases hm15 : m < 15
            · have hd15 : decide ((m : Int) + 1 ≤ 15) = true := by simp; omega
              go_wp2_with fail
              go_loopw [9, 10, 12] (fun cd la i wr => ∃ s code last : Nat, s ≤ k ∧ i = .int .i64 s ∧ cd = .int .i64 code ∧ la = .int .i64 last ∧ Nx (cOf f k) f (m + 1) s code last ∧ wr.ownsRow w.heap.size 3 1 (.slice (some ⟨w.heap.size, 0, none⟩) k k) k (natsV (refTo (cOf f k) f k (m + 1) s)) ∧ Touch (fun _ => False) w wr) (fun _ _ i _ => k - (intOf i).toNat)
              case atStart => exact ⟨0, code, last, Nat.zero_le _, rfl, rfl, rfl, NX.out, O3.out, T3.out⟩
              case round =>
                obtain ⟨s, code, last, hs, rfl, rfl, rfl, hnx, ho, ht⟩ := hrel
                have NX := hid hnx
                have O3 := hid ho
                have T3 := hid ht
                clear hnx ho ht
                by_cases hlt : s < k
                · rcases HI.out with h | ⟨b, o, ha, hb, hcell⟩
                  · omega
                  · subst ha
                    have d0 : wr.cell? ⟨b, o + s, none⟩ = some (.int .i64 (f s : Nat)) := by rw [T3.out.cell (p := ⟨b, o + s, none⟩) hb id]; exact hcell s hlt
                    clear hcell
                    by_cases hfs : f s = m + 1
                    · have GV := hid (NX.out.give hfs (by omega))
                      have hbd := NX.out.bound HC.out (by omega) (by omega)
                      have hlast := NX.out.1
                      have hcz := NX.out.2.1
                      obtain ⟨X, hX⟩ : ∃ X, (if last = 0 then 0 else (code + 1) * 2 ^ (m + 1 - last)) = X := ⟨_, rfl⟩
                      rw [hX] at hbd
                      obtain ⟨hbd1, hbd2⟩ := hbd
                      have GX := hid (show codeOf (cOf f k) f s = X from by rw [← hX]; exact GV.out.1)
                      have q6 : ((f s : Int) != (m : Int) + 1) = false := by simp; omega
                      have d3 : wr.cell? ⟨w.heap.size, s, none⟩ = some (.int .i64 0) := by
                        have := O3.out.cells (g := w.heap.size) rfl s (.int .i64 0) (by simp only [natsV, refTo, List.map_map, List.getElem?_map, List.getElem?_range hlt, Option.map_some, Function.comp_def]; rw [if_neg (by omega)]; rfl)
                        rwa [add_zero] at this
                      have d4 : wr.frozen? ⟨w.heap.size, s, none⟩ = false := by
                        rcases O3.out.2 with ⟨h, _⟩ | ⟨g', cap', cur, h, _, hh, _⟩
                        · simp at h
                        · simp at h
                          obtain ⟨rfl, rfl⟩ := h
                          simp [World.frozen?, hh]
                      have FS := hid hfs
                      clear hfs
                      by_cases hl0 : last = 0
                      · have HC0 := hid (hcz hl0)
                        have HX0 : Hid (X = 0) := by rw [← hX, if_pos hl0]; exact rfl
                        have hlp : ¬ (0 : Int) < (last : Int) := by omega
                        clear hX hcz hl0
                        go_wp2_with fail
                        go_loopw [9, 10] (fun cd la u => cd = .int .i64 code ∧ la = .int .i64 last ∧ u = wr) (fun _ _ _ => 0)
                        case atStart => exact ⟨rfl, rfl, rfl⟩
                        case round =>
                          obtain ⟨rfl, rfl, rfl⟩ := hrel
                          go_wp2
                          go_roundw
                          case rel =>
                            refine ⟨s + 1, codeOf (cOf f k) f s, m + 1, by omega, by go_num, by rw [GX.out, HX0.out, HC0.out], by go_num, GV.out.2, ?_, T3.out.setCell (fun h => by simp at h) _⟩
                            rw [refTo_set _ _ _ _ _ FS.out (by omega), GX.out, HX0.out]
                            have h := own3_set' O3.out s (.int .i64 (code : Nat))
                            rw [HC0.out] at h ⊢
                            simpa [natsV, List.map_set] using h
                          case measure => simp [intOf]; omega
                      · have hX1 : (code + 1) * 2 ^ (m + 1 - last) = X := by rw [← hX, if_neg hl0]
                        have HX1 := hid hX1
                        have hlp : (0 : Int) < (last : Int) := by omega
                        clear hX hX1 hcz
                        go_wp2_with fail
                        go_loopw [9, 10] (fun cd la u => ∃ cc ll : Nat, cd = .int .i64 cc ∧ la = .int .i64 ll ∧ 0 < ll ∧ ll ≤ m + 1 ∧ cc * 2 ^ (m + 1 - ll) = X ∧ u = wr) (fun _ la _ => m + 1 - (intOf la).toNat)
                        case atStart => exact ⟨code + 1, last, by go_num, rfl, by omega, by omega, HX1.out, rfl⟩
                        case round =>
                          obtain ⟨cc, ll, rfl, rfl, hp1, hp2, hp3, rfl⟩ := hrel
                          have hle : cc ≤ X := by rw [← hp3]; exact Nat.le_mul_of_pos_right _ (Nat.pow_pos (by decide))
                          have P3 := hid hp3
                          have hlp2 : (0 : Int) < (ll : Int) := by omega
                          clear hp3
                          by_cases hll : ll < m + 1
                          · have hll' : (ll : Int) < (m : Int) + 1 := by omega
                            go_wp2
                            go_roundw
                            case rel => exact ⟨cc * 2, ll + 1, by go_num, by go_num, by omega, by omega, by rw [← P3.out, Nat.mul_assoc, ← Nat.pow_succ']; congr 2; omega, by first | rfl | trivial⟩
                            case measure => simp [intOf]; omega
                          · obtain rfl : ll = m + 1 := by omega
                            have hll' : ¬ ((m + 1 : Nat) : Int) < (m : Int) + 1 := by omega
                            have hcX : cc = X := by have := P3.out; rw [Nat.sub_self] at this; omega
                            subst hcX
                            clear P3
                            go_wp2
                            go_roundw
                            case rel =>
                              refine ⟨s + 1, codeOf (cOf f k) f s, m + 1, by omega, by go_num, by rw [GX.out], by go_num, GV.out.2, ?_, T3.out.setCell (fun h => by simp at h) _⟩
                              rw [refTo_set _ _ _ _ _ FS.out (by omega), GX.out]
                              have h := own3_set' O3.out s (.int .i64 (cc : Nat))
                              simpa [natsV, List.map_set] using h
                            case measure => simp [intOf]; omega
                    · have q6 : ((f s : Int) != (m : Int) + 1) = true := by simp; omega
                      have FS := hid hfs
                      clear hfs
                      go_wp2
                      go_roundw
                      case rel => exact ⟨s + 1, code, last, by omega, by go_num, rfl, rfl, NX.out.skip FS.out, by rw [refTo_skip _ _ _ _ _ FS.out]; exact O3.out, T3.out⟩
                      case measure => simp [intOf]; omega
                · obtain rfl : s = k := by omega
                  go_wp2
                  go_roundw
                  case rel => exact ⟨m + 1, code, last, by omega, by go_num, rfl, rfl, NX.out.next (by omega), by rw [← refTo_next]; exact O3.out, T3.out⟩
                  case measure => simp [intOf]; omega
            · obtain rfl : m = 15 := by omega
              go_wp2
              go_ret2
              exact ⟨_, rfl, by rw [← refTo_all _ _ HF.out]; exact O3.out, T3.out⟩
        · have q4 : ((st : Int) == 1) = false := by simp; omega
          clear e4
          go_wp2_with (first
            | (at_make; refine wpList_make_full _ rfl _ _ 72 rfl w.heap.size 3 i0 (.int .i64 0) 1 Tryd.underlying72 hin hz0 hz1 .i64 .i64 _ _ k rfl rfl rfl rfl (by rw [hz2]; omega) (by unfold maxLen; omega) (Nat.le_refl _) ?_))
          intro w2 hown hgrow
          rw [toList_madeCells_one] at hown
          have T2 : Hid (Touch (fun _ => False) w w2) := (Touch.refl _ w).grown hgrow (fun k e => by simp at e)
          have O2 := hid hown
          clear hown hgrow
          go_wp2_with fail
          go_loopw [9, 10, 11] (fun cd la i wr => ∃ m code last : Nat, m ≤ 15 ∧ i = .int .i64 (m + 1) ∧ cd = .int .i64 code ∧ la = .int .i64 last ∧ Nx (cOf f k) f (m + 1) 0 code last ∧ wr.ownsRow w.heap.size 3 1 (.slice (some ⟨w.heap.size, 0, none⟩) k k) k (natsV (refTo (cOf f k) f k (m + 1) 0)) ∧ Touch (fun _ => False) w wr) (fun _ _ i _ => 16 - (intOf i).toNat)
          case atStart => exact ⟨0, 0, 0, by decide, rfl, rfl, rfl, Nx.start _ _ rfl, by rw [refTo_zero]; exact O2.out, T2.out⟩
          case round =>
            obtain ⟨m, code, last, hm, rfl, rfl, rfl, hnx, ho, ht⟩ := hrel
            have NX := hid hnx
            have O3 := hid ho
            have T3 := hid ht
            clear hnx ho ht O2 T2
            by_cases hm15 : m < 15
            · have hd15 : decide ((m : Int) + 1 ≤ 15) = true := by simp; omega
              go_wp2_with fail
              go_loopw [9, 10, 12] (fun cd la i wr => ∃ s code last : Nat, s ≤ k ∧ i = .int .i64 s ∧ cd = .int .i64 code ∧ la = .int .i64 last ∧ Nx (cOf f k) f (m + 1) s code last ∧ wr.ownsRow w.heap.size 3 1 (.slice (some ⟨w.heap.size, 0, none⟩) k k) k (natsV (refTo (cOf f k) f k (m + 1) s)) ∧ Touch (fun _ => False) w wr) (fun _ _ i _ => k - (intOf i).toNat)
              case atStart => exact ⟨0, code, last, Nat.zero_le _, rfl, rfl, rfl, NX.out, O3.out, T3.out⟩
              case round =>
                obtain ⟨s, code, last, hs, rfl, rfl, rfl, hnx, ho, ht⟩ := hrel
                have NX := hid hnx
                have O3 := hid ho
                have T3 := hid ht
                clear hnx ho ht
                by_cases hlt : s < k
                · rcases HI.out with h | ⟨b, o, ha, hb, hcell⟩
                  · omega
                  · subst ha
                    have d0 : wr.cell? ⟨b, o + s, none⟩ = some (.int .i64 (f s : Nat)) := by rw [T3.out.cell (p := ⟨b, o + s, none⟩) hb id]; exact hcell s hlt
                    clear hcell
                    by_cases hfs : f s = m + 1
                    · have GV := hid (NX.out.give hfs (by omega))
                      have hbd := NX.out.bound HC.out (by omega) (by omega)
                      have hlast := NX.out.1
                      have hcz := NX.out.2.1
                      obtain ⟨X, hX⟩ : ∃ X, (if last = 0 then 0 else (code + 1) * 2 ^ (m + 1 - last)) = X := ⟨_, rfl⟩
                      rw [hX] at hbd
                      obtain ⟨hbd1, hbd2⟩ := hbd
                      have GX := hid (show codeOf (cOf f k) f s = X from by rw [← hX]; exact GV.out.1)
                      have q6 : ((f s : Int) != (m : Int) + 1) = false := by simp; omega
                      have d3 : wr.cell? ⟨w.heap.size, s, none⟩ = some (.int .i64 0) := by
                        have := O3.out.cells (g := w.heap.size) rfl s (.int .i64 0) (by simp only [natsV, refTo, List.map_map, List.getElem?_map, List.getElem?_range hlt, Option.map_some, Function.comp_def]; rw [if_neg (by omega)]; rfl)
                        rwa [add_zero] at this
                      have d4 : wr.frozen? ⟨w.heap.size, s, none⟩ = false := by
                        rcases O3.out.2 with ⟨h, _⟩ | ⟨g', cap', cur, h, _, hh, _⟩
                        · simp at h
                        · simp at h
                          obtain ⟨rfl, rfl⟩ := h
                          simp [World.frozen?, hh]
                      have FS := hid hfs
                      clear hfs
                      by_cases hl0 : last = 0
                      · have HC0 := hid (hcz hl0)
                        have HX0 : Hid (X = 0) := by rw [← hX, if_pos hl0]; exact rfl
                        have hlp : ¬ (0 : Int) < (last : Int) := by omega
                        clear hX hcz hl0
                        go_wp2_with fail
                        go_loopw [9, 10] (fun cd la u => cd = .int .i64 code ∧ la = .int .i64 last ∧ u = wr) (fun _ _ _ => 0)
                        case atStart => exact ⟨rfl, rfl, rfl⟩
                        case round =>
                          obtain ⟨rfl, rfl, rfl⟩ := hrel
                          go_wp2
                          go_roundw
                          case rel =>
                            refine ⟨s + 1, codeOf (cOf f k) f s, m + 1, by omega, by go_num, by rw [GX.out, HX0.out, HC0.out], by go_num, GV.out.2, ?_, T3.out.setCell (fun h => by simp at h) _⟩
                            rw [refTo_set _ _ _ _ _ FS.out (by omega), GX.out, HX0.out]
                            have h := own3_set' O3.out s (.int .i64 (code : Nat))
                            rw [HC0.out] at h ⊢
                            simpa [natsV, List.map_set] using h
                          case measure => simp [intOf]; omega
                      · have hX1 : (code + 1) * 2 ^ (m + 1 - last) = X := by rw [← hX, if_neg hl0]
                        have HX1 := hid hX1
                        have hlp : (0 : Int) < (last : Int) := by omega
                        clear hX hX1 hcz
                        go_wp2_with fail
                        go_loopw [9, 10] (fun cd la u => ∃ cc ll : Nat, cd = .int .i64 cc ∧ la = .int .i64 ll ∧ 0 < ll ∧ ll ≤ m + 1 ∧ cc * 2 ^ (m + 1 - ll) = X ∧ u = wr) (fun _ la _ => m + 1 - (intOf la).toNat)
                        case atStart => exact ⟨code + 1, last, by go_num, rfl, by omega, by omega, HX1.out, rfl⟩
                        case round =>
                          obtain ⟨cc, ll, rfl, rfl, hp1, hp2, hp3, rfl⟩ := hrel
                          have hle : cc ≤ X := by rw [← hp3]; exact Nat.le_mul_of_pos_right _ (Nat.pow_pos (by decide))
                          have P3 := hid hp3
                          have hlp2 : (0 : Int) < (ll : Int) := by omega
                          clear hp3
                          by_cases hll : ll < m + 1
                          · have hll' : (ll : Int) < (m : Int) + 1 := by omega
                            go_wp2
                            go_roundw
                            case rel => exact ⟨cc * 2, ll + 1, by go_num, by go_num, by omega, by omega, by rw [← P3.out, Nat.mul_assoc, ← Nat.pow_succ']; congr 2; omega, by first | rfl | trivial⟩
                            case measure => simp [intOf]; omega
                          · obtain rfl : ll = m + 1 := by omega
                            have hll' : ¬ ((m + 1 : Nat) : Int) < (m : Int) + 1 := by omega
                            have hcX : cc = X := by have := P3.out; rw [Nat.sub_self] at this; omega
                            subst hcX
                            clear P3
                            go_wp2
                            go_roundw
                            case rel =>
                              refine ⟨s + 1, codeOf (cOf f k) f s, m + 1, by omega, by go_num, by rw [GX.out], by go_num, GV.out.2, ?_, T3.out.setCell (fun h => by simp at h) _⟩
                              rw [refTo_set _ _ _ _ _ FS.out (by omega), GX.out]
                              have h := own3_set' O3.out s (.int .i64 (cc : Nat))
                              simpa [natsV, List.map_set] using h
                            case measure => simp [intOf]; omega
                    · have q6 : ((f s : Int) != (m : Int) + 1) = true := by simp; omega
                      have FS := hid hfs
                      clear hfs
                      go_wp2
                      go_roundw
                      case rel => exact ⟨s + 1, code, last, by omega, by go_num, rfl, rfl, NX.out.skip FS.out, by rw [refTo_skip _ _ _ _ _ FS.out]; exact O3.out, T3.out⟩
                      case measure => simp [intOf]; omega
                · obtain rfl : s = k := by omega
                  go_wp2
                  go_roundw
                  case rel => exact ⟨m + 1, code, last, by omega, by go_num, rfl, rfl, NX.out.next (by omega), by rw [← refTo_next]; exact O3.out, T3.out⟩
                  case measure => simp [intOf]; omega
            · obtain rfl : m = 15 := by omega
              go_wp2
              go_ret2
              exact ⟨_, rfl, by rw [← refTo_all _ _ HF.out]; exact O3.out, T3.out⟩
      · have h0 := hz h'
        subst h0 h'
        clear h e1 e2 q1 hz
        go_wp2_with (first
          | (at_make; refine wpList_make_full _ rfl _ _ 72 rfl w.heap.size 3 i0 (.int .i64 0) 1 Tryd.underlying72 hin hz0 hz1 .i64 .i64 _ _ k rfl rfl rfl rfl (by rw [hz2]; omega) (by unfold maxLen; omega) (Nat.le_refl _) ?_))
        intro w2 hown hgrow
        rw [toList_madeCells_one] at hown
        have T2 : Hid (Touch (fun _ => False) w w2) := (Touch.refl _ w).grown hgrow (fun k e => by simp at e)
        have O2 := hid hown
        clear hown hgrow
        go_wp2_with fail
        go_loopw [9, 10, 11] (fun cd la i wr => ∃ m code last : Nat, m ≤ 15 ∧ i = .int .i64 (m + 1) ∧ cd = .int .i64 code ∧ la = .int .i64 last ∧ Nx (cOf f k) f (m + 1) 0 code last ∧ wr.ownsRow w.heap.size 3 1 (.slice (some ⟨w.heap.size, 0, none⟩) k k) k (natsV (refTo (cOf f k) f k (m + 1) 0)) ∧ Touch (fun _ => False) w wr) (fun _ _ i _ => 16 - (intOf i).toNat)
        case atStart => exact ⟨0, 0, 0, by decide, rfl, rfl, rfl, Nx.start _ _ rfl, by rw [refTo_zero]; exact O2.out, T2.out⟩
        case round =>
          obtain ⟨m, code, last, hm, rfl, rfl, rfl, hnx, ho, ht⟩ := hrel
          have NX := hid hnx
          have O3 := hid ho
          have T3 := hid ht
          clear hnx ho ht O2 T2
          by_cases hm15 : m < 15
          · have hd15 : decide ((m : Int) + 1 ≤ 15) = true := by simp; omega
            go_wp2_with fail
            go_loopw [9, 10, 12] (fun cd la i wr => ∃ s code last : Nat, s ≤ k ∧ i = .int .i64 s ∧ cd = .int .i64 code ∧ la = .int .i64 last ∧ Nx (cOf f k) f (m + 1) s code last ∧ wr.ownsRow w.heap.size 3 1 (.slice (some ⟨w.heap.size, 0, none⟩) k k) k (natsV (refTo (cOf f k) f k (m + 1) s)) ∧ Touch (fun _ => False) w wr) (fun _ _ i _ => k - (intOf i).toNat)
            case atStart => exact ⟨0, code, last, Nat.zero_le _, rfl, rfl, rfl, NX.out, O3.out, T3.out⟩
            case round =>
              obtain ⟨s, code, last, hs, rfl, rfl, rfl, hnx, ho, ht⟩ := hrel
              have NX := hid hnx
              have O3 := hid ho
              have T3 := hid ht
              clear hnx ho ht
              by_cases hlt : s < k
              · rcases HI.out with h | ⟨b, o, ha, hb, hcell⟩
                · omega
                · subst ha
                  have d0 : wr.cell? ⟨b, o + s, none⟩ = some (.int .i64 (f s : Nat)) := by rw [T3.out.cell (p := ⟨b, o + s, none⟩) hb id]; exact hcell s hlt
                  clear hcell
                  by_cases hfs : f s = m + 1
                  · have GV := hid (NX.out.give hfs (by omega))
                    have hbd := NX.out.bound HC.out (by omega) (by omega)
                    have hlast := NX.out.1
                    have hcz := NX.out.2.1
                    obtain ⟨X, hX⟩ : ∃ X, (if last = 0 then 0 else (code + 1) * 2 ^ (m + 1 - last)) = X := ⟨_, rfl⟩
                    rw [hX] at hbd
                    obtain ⟨hbd1, hbd2⟩ := hbd
                    have GX := hid (show codeOf (cOf f k) f s = X from by rw [← hX]; exact GV.out.1)
                    have q6 : ((f s : Int) != (m : Int) + 1) = false := by simp; omega
                    have d3 : wr.cell? ⟨w.heap.size, s, none⟩ = some (.int .i64 0) := by
                      have := O3.out.cells (g := w.heap.size) rfl s (.int .i64 0) (by simp only [natsV, refTo, List.map_map, List.getElem?_map, List.getElem?_range hlt, Option.map_some, Function.comp_def]; rw [if_neg (by omega)]; rfl)
                      rwa [add_zero] at this
                    have d4 : wr.frozen? ⟨w.heap.size, s, none⟩ = false := by
                      rcases O3.out.2 with ⟨h, _⟩ | ⟨g', cap', cur, h, _, hh, _⟩
                      · simp at h
                      · simp at h
                        obtain ⟨rfl, rfl⟩ := h
                        simp [World.frozen?, hh]
                    have FS := hid hfs
                    clear hfs
                    by_cases hl0 : last = 0
                    · have HC0 := hid (hcz hl0)
                      have HX0 : Hid (X = 0) := by rw [← hX, if_pos hl0]; exact rfl
                      have hlp : ¬ (0 : Int) < (last : Int) := by omega
                      clear hX hcz hl0
                      go_wp2_with fail
                      go_loopw [9, 10] (fun cd la u => cd = .int .i64 code ∧ la = .int .i64 last ∧ u = wr) (fun _ _ _ => 0)
                      case atStart => exact ⟨rfl, rfl, rfl⟩
                      case round =>
                        obtain ⟨rfl, rfl, rfl⟩ := hrel
                        go_wp2
                        go_roundw
                        case rel =>
                          refine ⟨s + 1, codeOf (cOf f k) f s, m + 1, by omega, by go_num, by rw [GX.out, HX0.out, HC0.out], by go_num, GV.out.2, ?_, T3.out.setCell (fun h => by simp at h) _⟩
                          rw [refTo_set _ _ _ _ _ FS.out (by omega), GX.out, HX0.out]
                          have h := own3_set' O3.out s (.int .i64 (code : Nat))
                          rw [HC0.out] at h ⊢
                          simpa [natsV, List.map_set] using h
                        case measure => simp [intOf]; omega
                    · have hX1 : (code + 1) * 2 ^ (m + 1 - last) = X := by rw [← hX, if_neg hl0]
                      have HX1 := hid hX1
                      have hlp : (0 : Int) < (last : Int) := by omega
                      clear hX hX1 hcz
                      go_wp2_with fail
                      go_loopw [9, 10] (fun cd la u => ∃ cc ll : Nat, cd = .int .i64 cc ∧ la = .int .i64 ll ∧ 0 < ll ∧ ll ≤ m + 1 ∧ cc * 2 ^ (m + 1 - ll) = X ∧ u = wr) (fun _ la _ => m + 1 - (intOf la).toNat)
                      case atStart => exact ⟨code + 1, last, by go_num, rfl, by omega, by omega, HX1.out, rfl⟩
                      case round =>
                        obtain ⟨cc, ll, rfl, rfl, hp1, hp2, hp3, rfl⟩ := hrel
                        have hle : cc ≤ X := by rw [← hp3]; exact Nat.le_mul_of_pos_right _ (Nat.pow_pos (by decide))
                        have P3 := hid hp3
                        have hlp2 : (0 : Int) < (ll : Int) := by omega
                        clear hp3
                        by_cases hll : ll < m + 1
                        · have hll' : (ll : Int) < (m : Int) + 1 := by omega
                          go_wp2
                          go_roundw
                          case rel => exact ⟨cc * 2, ll + 1, by go_num, by go_num, by omega, by omega, by rw [← P3.out, Nat.mul_assoc, ← Nat.pow_succ']; congr 2; omega, by first | rfl | trivial⟩
                          case measure => simp [intOf]; omega
                        · obtain rfl : ll = m + 1 := by omega
                          have hll' : ¬ ((m + 1 : Nat) : Int) < (m : Int) + 1 := by omega
                          have hcX : cc = X := by have := P3.out; rw [Nat.sub_self] at this; omega
                          subst hcX
                          clear P3
                          go_wp2
                          go_roundw
                          case rel =>
                            refine ⟨s + 1, codeOf (cOf f k) f s, m + 1, by omega, by go_num, by rw [GX.out], by go_num, GV.out.2, ?_, T3.out.setCell (fun h => by simp at h) _⟩
                            rw [refTo_set _ _ _ _ _ FS.out (by omega), GX.out]
                            have h := own3_set' O3.out s (.int .i64 (cc : Nat))
                            simpa [natsV, List.map_set] using h
                          case measure => simp [intOf]; omega
                  · have q6 : ((f s : Int) != (m : Int) + 1) = true := by simp; omega
                    have FS := hid hfs
                    clear hfs
                    go_wp2
                    go_roundw
                    case rel => exact ⟨s + 1, code, last, by omega, by go_num, rfl, rfl, NX.out.skip FS.out, by rw [refTo_skip _ _ _ _ _ FS.out]; exact O3.out, T3.out⟩
                    case measure => simp [intOf]; omega
              · obtain rfl : s = k := by omega
                go_wp2
                go_roundw
                case rel => exact ⟨m + 1, code, last, by omega, by go_num, rfl, rfl, NX.out.next (by omega), by rw [← refTo_next]; exact O3.out, T3.out⟩
                case measure => simp [intOf]; omega
          · obtain rfl : m = 15 := by omega
            go_wp2
            go_ret2
            exact ⟨_, rfl, by rw [← refTo_all _ _ HF.out]; exact O3.out, T3.out⟩
      · subst h h'
        clear e1 e2 q1 hz
        go_wp2_with (first
          | (at_make; refine wpList_make_full _ rfl _ _ 72 rfl w.heap.size 3 i0 (.int .i64 0) 1 Tryd.underlying72 hin hz0 hz1 .i64 .i64 _ _ k rfl rfl rfl rfl (by rw [hz2]; omega) (by unfold maxLen; omega) (Nat.le_refl _) ?_))
        intro w2 hown hgrow
        rw [toList_madeCells_one] at hown
        have T2 : Hid (Touch (fun _ => False) w w2) := (Touch.refl _ w).grown hgrow (fun k e => by simp at e)
        have O2 := hid hown
        clear hown hgrow
        go_wp2_with fail
        go_loopw [9, 10, 11] (fun cd la i wr => ∃ m code last : Nat, m ≤ 15 ∧ i = .int .i64 (m + 1) ∧ cd = .int .i64 code ∧ la = .int .i64 last ∧ Nx (cOf f k) f (m + 1) 0 code last ∧ wr.ownsRow w.heap.size 3 1 (.slice (some ⟨w.heap.size, 0, none⟩) k k) k (natsV (refTo (cOf f k) f k (m + 1) 0)) ∧ Touch (fun _ => False) w wr) (fun _ _ i _ => 16 - (intOf i).toNat)
        case atStart => exact ⟨0, 0, 0, by decide, rfl, rfl, rfl, Nx.start _ _ rfl, by rw [refTo_zero]; exact O2.out, T2.out⟩
        case round =>
          obtain ⟨m, code, last, hm, rfl, rfl, rfl, hnx, ho, ht⟩ := hrel
          have NX := hid hnx
          have O3 := hid ho
          have T3 := hid ht
          clear hnx ho ht O2 T2
          by_cases hm15 : m < 15
          · have hd15 : decide ((m : Int) + 1 ≤ 15) = true := by simp; omega
            go_wp2_with fail
            go_loopw [9, 10, 12] (fun cd la i wr => ∃ s code last : Nat, s ≤ k ∧ i = .int .i64 s ∧ cd = .int .i64 code ∧ la = .int .i64 last ∧ Nx (cOf f k) f (m + 1) s code last ∧ wr.ownsRow w.heap.size 3 1 (.slice (some ⟨w.heap.size, 0, none⟩) k k) k (natsV (refTo (cOf f k) f k (m + 1) s)) ∧ Touch (fun _ => False) w wr) (fun _ _ i _ => k - (intOf i).toNat)
            case atStart => exact ⟨0, code, last, Nat.zero_le _, rfl, rfl, rfl, NX.out, O3.out, T3.out⟩
            case round =>
              obtain ⟨s, code, last, hs, rfl, rfl, rfl, hnx, ho, ht⟩ := hrel
              have NX := hid hnx
              have O3 := hid ho
              have T3 := hid ht
              clear hnx ho ht
              by_cases hlt : s < k
              · rcases HI.out with h | ⟨b, o, ha, hb, hcell⟩
                · omega
                · subst ha
                  have d0 : wr.cell? ⟨b, o + s, none⟩ = some (.int .i64 (f s : Nat)) := by rw [T3.out.cell (p := ⟨b, o + s, none⟩) hb id]; exact hcell s hlt
                  clear hcell
                  by_cases hfs : f s = m + 1
                  · have GV := hid (NX.out.give hfs (by omega))
                    have hbd := NX.out.bound HC.out (by omega) (by omega)
                    have hlast := NX.out.1
                    have hcz := NX.out.2.1
                    obtain ⟨X, hX⟩ : ∃ X, (if last = 0 then 0 else (code + 1) * 2 ^ (m + 1 - last)) = X := ⟨_, rfl⟩
                    rw [hX] at hbd
                    obtain ⟨hbd1, hbd2⟩ := hbd
                    have GX := hid (show codeOf (cOf f k) f s = X from by rw [← hX]; exact GV.out.1)
                    have q6 : ((f s : Int) != (m : Int) + 1) = false := by simp; omega
                    have d3 : wr.cell? ⟨w.heap.size, s, none⟩ = some (.int .i64 0) := by
                      have := O3.out.cells (g := w.heap.size) rfl s (.int .i64 0) (by simp only [natsV, refTo, List.map_map, List.getElem?_map, List.getElem?_range hlt, Option.map_some, Function.comp_def]; rw [if_neg (by omega)]; rfl)
                      rwa [add_zero] at this
                    have d4 : wr.frozen? ⟨w.heap.size, s, none⟩ = false := by
                      rcases O3.out.2 with ⟨h, _⟩ | ⟨g', cap', cur, h, _, hh, _⟩
                      · simp at h
                      · simp at h
                        obtain ⟨rfl, rfl⟩ := h
                        simp [World.frozen?, hh]
                    have FS := hid hfs
                    clear hfs
                    by_cases hl0 : last = 0
                    · have HC0 := hid (hcz hl0)
                      have HX0 : Hid (X = 0) := by rw [← hX, if_pos hl0]; exact rfl
                      have hlp : ¬ (0 : Int) < (last : Int) := by omega
                      clear hX hcz hl0
                      go_wp2_with fail
                      go_loopw [9, 10] (fun cd la u => cd = .int .i64 code ∧ la = .int .i64 last ∧ u = wr) (fun _ _ _ => 0)
                      case atStart => exact ⟨rfl, rfl, rfl⟩
                      case round =>
                        obtain ⟨rfl, rfl, rfl⟩ := hrel
                        go_wp2
                        go_roundw
                        case rel =>
                          refine ⟨s + 1, codeOf (cOf f k) f s, m + 1, by omega, by go_num, by rw [GX.out, HX0.out, HC0.out], by go_num, GV.out.2, ?_, T3.out.setCell (fun h => by simp at h) _⟩
                          rw [refTo_set _ _ _ _ _ FS.out (by omega), GX.out, HX0.out]
                          have h := own3_set' O3.out s (.int .i64 (code : Nat))
                          rw [HC0.out] at h ⊢
                          simpa [natsV, List.map_set] using h
                        case measure => simp [intOf]; omega
                    · have hX1 : (code + 1) * 2 ^ (m + 1 - last) = X := by rw [← hX, if_neg hl0]
                      have HX1 := hid hX1
                      have hlp : (0 : Int) < (last : Int) := by omega
                      clear hX hX1 hcz
                      go_wp2_with fail
                      go_loopw [9, 10] (fun cd la u => ∃ cc ll : Nat, cd = .int .i64 cc ∧ la = .int .i64 ll ∧ 0 < ll ∧ ll ≤ m + 1 ∧ cc * 2 ^ (m + 1 - ll) = X ∧ u = wr) (fun _ la _ => m + 1 - (intOf la).toNat)
                      case atStart => exact ⟨code + 1, last, by go_num, rfl, by omega, by omega, HX1.out, rfl⟩
                      case round =>
                        obtain ⟨cc, ll, rfl, rfl, hp1, hp2, hp3, rfl⟩ := hrel
                        have hle : cc ≤ X := by rw [← hp3]; exact Nat.le_mul_of_pos_right _ (Nat.pow_pos (by decide))
                        have P3 := hid hp3
                        have hlp2 : (0 : Int) < (ll : Int) := by omega
                        clear hp3
                        by_cases hll : ll < m + 1
                        · have hll' : (ll : Int) < (m : Int) + 1 := by omega
                          go_wp2
                          go_roundw
                          case rel => exact ⟨cc * 2, ll + 1, by go_num, by go_num, by omega, by omega, by rw [← P3.out, Nat.mul_assoc, ← Nat.pow_succ']; congr 2; omega, by first | rfl | trivial⟩
                          case measure => simp [intOf]; omega
                        · obtain rfl : ll = m + 1 := by omega
                          have hll' : ¬ ((m + 1 : Nat) : Int) < (m : Int) + 1 := by omega
                          have hcX : cc = X := by have := P3.out; rw [Nat.sub_self] at this; omega
                          subst hcX
                          clear P3
                          go_wp2
                          go_roundw
                          case rel =>
                            refine ⟨s + 1, codeOf (cOf f k) f s, m + 1, by omega, by go_num, by rw [GX.out], by go_num, GV.out.2, ?_, T3.out.setCell (fun h => by simp at h) _⟩
                            rw [refTo_set _ _ _ _ _ FS.out (by omega), GX.out]
                            have h := own3_set' O3.out s (.int .i64 (cc : Nat))
                            simpa [natsV, List.map_set] using h
                          case measure => simp [intOf]; omega
                  · have q6 : ((f s : Int) != (m : Int) + 1) = true := by simp; omega
                    have FS := hid hfs
                    clear hfs
                    go_wp2
                    go_roundw
                    case rel => exact ⟨s + 1, code, last, by omega, by go_num, rfl, rfl, NX.out.skip FS.out, by rw [refTo_skip _ _ _ _ _ FS.out]; exact O3.out, T3.out⟩
                    case measure => simp [intOf]; omega
              · obtain rfl : s = k := by omega
                go_wp2
                go_roundw
                case rel => exact ⟨m + 1, code, last, by omega, by go_num, rfl, rfl, NX.out.next (by omega), by rw [← refTo_next]; exact O3.out, T3.out⟩
                case measure => simp [intOf]; omega
          · obtain rfl : m = 15 := by omega
            go_wp2
            go_ret2
            exact ⟨_, rfl, by rw [← refTo_all _ _ HF.out]; exact O3.out, T3.out⟩

end Go.Proofs.YtohcngiiijokkaaDoor
