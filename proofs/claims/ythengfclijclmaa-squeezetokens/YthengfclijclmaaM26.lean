/- Texts of this proof, one behind the other: what each says stands ahead of it. -/
import Derived.Test.YthengfclijclmaaM21
import Derived.Test.YthengfclijclmaaM25
import Derived.Test.YthengfclijclmaaM20
import Derived.Test.YthengfclijclmaaM16
/- The walk of SqueezeSame; conditions: those told. -/
namespace Go.Proofs.Ythengfclijclmaa
open Go.RowKit
open Go.Lib

theorem tok_pre (b n : Nat) (hb : b < 256) : (strOf (List.replicate n b)).size = n ∧ ∀ i, i < (strOf (List.replicate n b)).size → Bt.byteN (strOf (List.replicate n b)) i = b := by
  have hs : (strOf (List.replicate n b)).size = n := by rw [size_strOf, List.length_replicate]
  refine ⟨hs, fun i hi => ?_⟩
  rw [hs] at hi
  rw [byteN_strOf _ (fun x hx => by rw [List.eq_of_mem_replicate hx]; exact hb)]
  rw [List.getD_eq_getElem?_getD, List.getElem?_replicate, if_pos hi]
  rfl
theorem tok_same (b n : Nat) (hb : b < 256) (hn : n ≤ 5000) (w : World) : Calls Try.prog 10 #[.string (strOf (List.replicate n b)), .int .i64 0, .int .i64 (n : Nat), .int .i64 1] w fun e w' => ∃ a c, e = .returned (.slice a (min n 1 + cS (n - min n 1)) c) ∧ Touch (fun _ => False) w w' := by
  obtain ⟨hs, hall⟩ := tok_pre b n hb
  have hk := tks_same0 _ b hall
  rw [hs] at hk
  refine (tokens10_any (strOf (List.replicate n b)) 0 n 1 1 0 w (Nat.zero_le _) (by omega) (by omega) (by decide) (by decide)).mono ?_
  rintro e w' ⟨v, rfl, tk⟩
  obtain ⟨a, c, hv⟩ := own_shapeQ tk.toks.own
  rw [Nat.sub_zero, hk] at hv
  exact ⟨a, c, by rw [hv], tk.touch⟩
theorem tok_zero (b n : Nat) (hb : b < 256) (hn : n ≤ 5000) (w : World) : Calls Try.prog 10 #[.string (strOf (List.replicate n b)), .int .i64 0, .int .i64 (n : Nat), .int .i64 0] w fun e w' => ∃ a c, e = .returned (.slice a n c) ∧ Touch (fun _ => False) w w' := by
  obtain ⟨hs, hall⟩ := tok_pre b n hb
  refine (tokens10_any (strOf (List.replicate n b)) 0 n 0 0 0 w (Nat.zero_le _) (by omega) (by omega) (by decide) (by decide)).mono ?_
  rintro e w' ⟨v, rfl, tk⟩
  obtain ⟨a, c, hv⟩ := own_shapeQ tk.toks.own
  rw [tks_zero _ _ _ _ _ (Nat.le_refl _), Nat.sub_zero] at hv
  exact ⟨a, c, by rw [hv], tk.touch⟩
theorem infoU5 : (Try.prog.info? 5).map (fun i => (i.zero, i.size, i.bytes)) = some (some (.int .u8 0), 1, 1) := by kernel_rfl
/-- So many bytes are laid. -/
def fillTo (b n k : Nat) : List Nat := (List.range n).map fun i => if i < k then b else 0
theorem fill_zero (b n : Nat) : bytesV (fillTo b n 0) = List.replicate n (.int .u8 0) := by
  apply List.ext_getElem
  · simp [bytesV, fillTo]
  · intro i h1 h2
    simp [bytesV, fillTo]
theorem fill_set (b n k : Nat) : fillTo b n (k + 1) = (fillTo b n k).set k b := by
  apply List.ext_getElem
  · simp [fillTo]
  · intro i h1 h2
    simp only [fillTo, List.getElem_map, List.getElem_range, List.getElem_set]
    by_cases e : k = i
    · subst e; simp
    · rw [if_neg e]
      by_cases e2 : i < k
      · rw [if_pos e2, if_pos (by omega)]
      · rw [if_neg e2, if_neg (by omega)]
theorem fill_all (b n : Nat) : fillTo b n n = List.replicate n b := by
  apply List.ext_getElem
  · simp [fillTo]
  · intro i h1 h2
    simp [fillTo] at h1 ⊢
    omega
theorem conv_same {w : World} {g n b : Nat} (hb : b < 256) (h : w.ownsRow 0 5 1 (.slice (some ⟨g, 0, none⟩) n n) n (bytesV (List.replicate n b))) (w' : World) (hw : w'.heap = w.heap) : (convert 25 9 (.slice (some ⟨g, 0, none⟩) n n)).run Try.prog w' = .ok (.string (strOf (List.replicate n b))) w' := by
  have hown : w'.ownsRow 0 5 1 (.slice (some ⟨g, 0, none⟩) n n) n (bytesV (List.replicate n b)) := own_kept h (fun k _ => by rw [hw])
  have hc : ∀ j (hj : j < ((List.replicate n b).map UInt8.ofNat).length), w'.cell? ((⟨g, 0, none⟩ : Addr).add j) = some (.int .u8 ((((List.replicate n b).map UInt8.ofNat)[j]).toNat : Int)) := by
    intro j hj
    simp only [List.length_map, List.length_replicate] at hj
    refine hown.cells rfl j _ ?_
    simp only [bytesV, List.getElem?_map, List.getElem?_replicate, hj, if_true, Option.map_some, List.getElem_map, List.getElem_replicate]
    rw [UInt8.toNat_ofNat_of_lt' (by simpa using hb)]
  have hcv := run_convert_bytes_back (P := Try.prog) w' 25 9 5 ⟨g, 0, none⟩ n ((List.replicate n b).map UInt8.ofNat) Try.underlying25 Try.underlying5 Try.underlying9 hc
  rw [List.length_map, List.length_replicate] at hcv
  exact hcv
theorem cS_some (m q r : Nat) (hq : m / 258 = q) (hr : m % 258 = r) (h : 3 ≤ r) : cS m = q + 1 := by unfold cS; rw [hq, hr, if_pos h]
theorem cS_few (m q r : Nat) (hq : m / 258 = q) (hr : m % 258 = r) (h : ¬ 3 ≤ r) : cS m = q + r := by unfold cS; rw [hq, hr, if_neg h]
set_option maxRecDepth 100000 in
set_option maxHeartbeats 8000000 in
theorem squeezeSame_walk (b : Nat) (N : Int) (hb : b < 256) (w : World) : Calls Try.prog 4 #[.int .u8 (b : Nat), .int .i64 N] w fun e w' => e = .returned (.bool true) ∧ Touch (fun _ => False) w w' := by
  obtain ⟨i0, hin, hz0, hz1, hz2⟩ := info_parts infoU5
  have K1 := hid (fun n hn w => tok_same b n hb hn w)
  have K0 := hid (fun n hn w => tok_zero b n hb hn w)
  have CV := hid (fun (w w' : World) (g n : Nat) h hw => conv_same (w := w) (g := g) (n := n) hb h w' hw)
  go_enter Try.func4, Try.ntmps4
  go_wp2_with fail
  refine (speaks4_yes w).mono ?_
  rintro e w1 ⟨rfl, t1⟩
  have T1 := hid t1
  clear t1
  by_cases h0 : N < 0
  · go_upto_region 5 with fail
    obtain ⟨n, hn7⟩ : ∃ n : Nat, (700 : Int) = (n : Int) := ⟨700, rfl⟩
    rw [hn7]
    have hn : n ≤ 5000 := by omega
    clear hn7 h0
    go_wp2_with (first
      | (at_make; refine wpList_make_full _ rfl _ _ 25 rfl w1.heap.size 5 i0 (.int .u8 0) 1 Try.underlying25 hin hz0 hz1 .i64 .i64 _ _ n rfl rfl rfl rfl (by rw [hz2]; omega) (by unfold maxLen; omega) (by omega) ?_))
    intro w2 hown hgrow
    rw [toList_madeCells_one] at hown
    have TG := hid (T1.out.grown hgrow (fun k e => by simp at e))
    obtain ⟨g, hg⟩ : ∃ g, g = w1.heap.size := ⟨_, rfl⟩
    rw [← hg] at hown ⊢
    have O := hid (show w2.ownsRow 0 5 1 (.slice (some ⟨g, 0, none⟩) n n) n (bytesV (fillTo b n 0)) from by
      rw [fill_zero]
      refine ⟨hown.1, ?_⟩
      rcases hown.2 with h | ⟨g', cap, cur, hv, _, r⟩
      · exact .inl h
      · exact .inr ⟨g', cap, cur, hv, Nat.zero_le _, r⟩)
    have HG := hid (show w.heap.size ≤ g by have := T1.out.size; omega)
    clear hown hgrow hg T1
    go_wp2_with fail
    go_loopg [6] n (fun gk i wr => ∃ k : Nat, k + gk = n ∧ i = .int .i64 (k : Nat) ∧ wr.ownsRow 0 5 1 (.slice (some ⟨g, 0, none⟩) n n) n (bytesV (fillTo b n k)) ∧ Touch (fun _ => False) w wr)
    case atStart => exact ⟨0, by omega, rfl, O.out, TG.out⟩
    case round =>
      obtain ⟨k, hk, rfl, ho, ht⟩ := hrel
      have O1 := hid ho
      have T1 := hid ht
      clear ho ht
      by_cases hlt : k < n
      · have hltI : (k : Int) < (n : Int) := by omega
        obtain ⟨x, hx⟩ : ∃ x : Nat, wr.cell? ⟨g, k, none⟩ = some (.int .u8 (x : Nat)) := by
          have hl : k < (bytesV (fillTo b n k)).length := by simp [bytesV, fillTo]; omega
          have := O1.out.cells (g := g) rfl k ((bytesV (fillTo b n k))[k]) (List.getElem?_eq_getElem hl)
          rw [add_zero] at this
          exact ⟨(fillTo b n k)[k]'(by simpa [bytesV] using hl), by rw [this]; simp [bytesV]⟩
        have hfz : wr.frozen? ⟨g, k, none⟩ = false := by
          rcases O1.out.2 with ⟨h, _⟩ | ⟨g', cap, cur, hv, _, hh, _⟩
          · simp at h
          · simp at hv
            obtain ⟨rfl, rfl⟩ := hv
            simp [World.frozen?, hh]
        go_wp2
        go_roundg (gk - 1)
        case measure => omega
        case rel =>
          refine ⟨k + 1, by omega, by go_num, ?_, T1.out.setCell (fun h => absurd h (by have := HG.out; simp; omega)) _⟩
          have := (O1.out.stored k (.int .u8 (b : Nat))).1
          rw [fill_set]
          have e : bytesV ((fillTo b n k).set k b) = (bytesV (fillTo b n k)).set k (.int .u8 (b : Nat)) := by
            unfold bytesV
            rw [List.map_set]
          rw [e]
          exact this
      · obtain rfl : k = n := by omega
        have O2 := hid (show wr.ownsRow 0 5 1 (.slice (some ⟨g, 0, none⟩) k k) k (bytesV (List.replicate k b)) by rw [← fill_all]; exact O1.out)
        clear O1 O TG hlt hk
        have hcv := CV.out wr wr g k O2.out rfl
        have C2 := fun w' (h : Touch (fun _ => False) wr w') => CV.out w' w' g k (own_kept O2.out (fun q hq => h.block q (by simp [Value.ownBlock] at hq; subst hq; exact (O2.out.lt _ rfl).2) id)) rfl
        have C2H := hid C2
        clear C2 CV
        by_cases h1 : k ≤ 1
        · have h1I : (k : Int) ≤ 1 := by omega
          have hk0 : min k 1 + cS (k - min k 1) = k := by
            have e : min k 1 = k := by omega
            rw [e, Nat.sub_self]
            rfl
          have K1' := K1.out k hn
          rw [hk0] at K1'
          clear K1 hk0
          go_wp2_with fail
          refine (K1' wr).mono ?_
          rintro e w3 ⟨a, c, rfl, t3⟩
          have hcv3 := C2H.out w3 t3
          have T3 := hid t3
          clear t3 hcv K1'
          go_wp2_with fail
          refine (K0.out k hn w3).mono ?_
          rintro e w4 ⟨a4, c4, rfl, t4⟩
          have T4 := hid t4
          clear t4
          go_wp2_with fail
          go_ret
          exact ⟨rfl, (T1.out.trans T3.out (fun _ _ e => e)).trans T4.out (fun _ _ e => e)⟩
        · have h1I : 1 < (k : Int) := by omega
          obtain ⟨m, hm⟩ : ∃ m, m = k - 1 := ⟨_, rfl⟩
          obtain ⟨q, hq⟩ : ∃ q, m / 258 = q := ⟨_, rfl⟩
          obtain ⟨r, hr⟩ : ∃ r, m % 258 = r := ⟨_, rfl⟩
          have hmI : (k : Int) - 1 = (m : Int) := by omega
          have hqI : (m : Int) / 258 = (q : Int) := by omega
          have hrI : (m : Int) % 258 = (r : Int) := by omega
          have hn2 : q ≤ 20 ∧ r < 258 ∧ m ≤ 5000 := by omega
          have hqb : (q : Int) ≤ 20 := by omega
          have hrb : (r : Int) < 258 := by omega
          by_cases hc : 3 ≤ r
          · have hcI : (3 : Int) ≤ (r : Int) := by omega
            have hx0 := hc
            have hk0 : min k 1 + cS (k - min k 1) = 1 + q + 1 := by
              have e1 : min k 1 = 1 := by omega
              rw [e1, ← hm]
              rw [cS_some m q r hq hr hc]
              omega
            have K1' := K1.out k hn
            rw [hk0] at K1'
            clear K1 hk0 hm hq hr hn2
            go_wp2_with fail
            refine (K1' wr).mono ?_
            rintro e w3 ⟨a, c, rfl, t3⟩
            have hcv3 := C2H.out w3 t3
            have T3 := hid t3
            clear t3 hcv K1'
            go_wp2_with fail
            refine (K0.out k hn w3).mono ?_
            rintro e w4 ⟨a4, c4, rfl, t4⟩
            have T4 := hid t4
            clear t4
            go_wp2_with fail
            go_ret
            exact ⟨rfl, (T1.out.trans T3.out (fun _ _ e => e)).trans T4.out (fun _ _ e => e)⟩
          · have hcI : (r : Int) < 3 := by omega
            have hx0 := hc
            have hk0 : min k 1 + cS (k - min k 1) = 1 + q + r := by
              have e1 : min k 1 = 1 := by omega
              rw [e1, ← hm]
              rw [cS_few m q r hq hr hc]
              omega
            have K1' := K1.out k hn
            rw [hk0] at K1'
            clear K1 hk0 hm hq hr hn2
            go_wp2_with fail
            refine (K1' wr).mono ?_
            rintro e w3 ⟨a, c, rfl, t3⟩
            have hcv3 := C2H.out w3 t3
            have T3 := hid t3
            clear t3 hcv K1'
            go_wp2_with fail
            refine (K0.out k hn w3).mono ?_
            rintro e w4 ⟨a4, c4, rfl, t4⟩
            have T4 := hid t4
            clear t4
            go_wp2_with fail
            go_ret
            exact ⟨rfl, (T1.out.trans T3.out (fun _ _ e => e)).trans T4.out (fun _ _ e => e)⟩
  · by_cases h5 : 5000 < N
    · go_upto_region 5 with fail
      obtain ⟨n, hn7⟩ : ∃ n : Nat, (700 : Int) = (n : Int) := ⟨700, rfl⟩
      rw [hn7]
      have hn : n ≤ 5000 := by omega
      clear hn7 h0 h5
      go_wp2_with (first
        | (at_make; refine wpList_make_full _ rfl _ _ 25 rfl w1.heap.size 5 i0 (.int .u8 0) 1 Try.underlying25 hin hz0 hz1 .i64 .i64 _ _ n rfl rfl rfl rfl (by rw [hz2]; omega) (by unfold maxLen; omega) (by omega) ?_))
      intro w2 hown hgrow
      rw [toList_madeCells_one] at hown
      have TG := hid (T1.out.grown hgrow (fun k e => by simp at e))
      obtain ⟨g, hg⟩ : ∃ g, g = w1.heap.size := ⟨_, rfl⟩
      rw [← hg] at hown ⊢
      have O := hid (show w2.ownsRow 0 5 1 (.slice (some ⟨g, 0, none⟩) n n) n (bytesV (fillTo b n 0)) from by
        rw [fill_zero]
        refine ⟨hown.1, ?_⟩
        rcases hown.2 with h | ⟨g', cap, cur, hv, _, r⟩
        · exact .inl h
        · exact .inr ⟨g', cap, cur, hv, Nat.zero_le _, r⟩)
      have HG := hid (show w.heap.size ≤ g by have := T1.out.size; omega)
      clear hown hgrow hg T1
      go_wp2_with fail
      go_loopg [6] n (fun gk i wr => ∃ k : Nat, k + gk = n ∧ i = .int .i64 (k : Nat) ∧ wr.ownsRow 0 5 1 (.slice (some ⟨g, 0, none⟩) n n) n (bytesV (fillTo b n k)) ∧ Touch (fun _ => False) w wr)
      case atStart => exact ⟨0, by omega, rfl, O.out, TG.out⟩
      case round =>
        obtain ⟨k, hk, rfl, ho, ht⟩ := hrel
        have O1 := hid ho
        have T1 := hid ht
        clear ho ht
        by_cases hlt : k < n
        · have hltI : (k : Int) < (n : Int) := by omega
          obtain ⟨x, hx⟩ : ∃ x : Nat, wr.cell? ⟨g, k, none⟩ = some (.int .u8 (x : Nat)) := by
            have hl : k < (bytesV (fillTo b n k)).length := by simp [bytesV, fillTo]; omega
            have := O1.out.cells (g := g) rfl k ((bytesV (fillTo b n k))[k]) (List.getElem?_eq_getElem hl)
            rw [add_zero] at this
            exact ⟨(fillTo b n k)[k]'(by simpa [bytesV] using hl), by rw [this]; simp [bytesV]⟩
          have hfz : wr.frozen? ⟨g, k, none⟩ = false := by
            rcases O1.out.2 with ⟨h, _⟩ | ⟨g', cap, cur, hv, _, hh, _⟩
            · simp at h
            · simp at hv
              obtain ⟨rfl, rfl⟩ := hv
              simp [World.frozen?, hh]
          go_wp2
          go_roundg (gk - 1)
          case measure => omega
          case rel =>
            refine ⟨k + 1, by omega, by go_num, ?_, T1.out.setCell (fun h => absurd h (by have := HG.out; simp; omega)) _⟩
            have := (O1.out.stored k (.int .u8 (b : Nat))).1
            rw [fill_set]
            have e : bytesV ((fillTo b n k).set k b) = (bytesV (fillTo b n k)).set k (.int .u8 (b : Nat)) := by
              unfold bytesV
              rw [List.map_set]
            rw [e]
            exact this
        · obtain rfl : k = n := by omega
          have O2 := hid (show wr.ownsRow 0 5 1 (.slice (some ⟨g, 0, none⟩) k k) k (bytesV (List.replicate k b)) by rw [← fill_all]; exact O1.out)
          clear O1 O TG hlt hk
          have hcv := CV.out wr wr g k O2.out rfl
          have C2 := fun w' (h : Touch (fun _ => False) wr w') => CV.out w' w' g k (own_kept O2.out (fun q hq => h.block q (by simp [Value.ownBlock] at hq; subst hq; exact (O2.out.lt _ rfl).2) id)) rfl
          have C2H := hid C2
          clear C2 CV
          by_cases h1 : k ≤ 1
          · have h1I : (k : Int) ≤ 1 := by omega
            have hk0 : min k 1 + cS (k - min k 1) = k := by
              have e : min k 1 = k := by omega
              rw [e, Nat.sub_self]
              rfl
            have K1' := K1.out k hn
            rw [hk0] at K1'
            clear K1 hk0
            go_wp2_with fail
            refine (K1' wr).mono ?_
            rintro e w3 ⟨a, c, rfl, t3⟩
            have hcv3 := C2H.out w3 t3
            have T3 := hid t3
            clear t3 hcv K1'
            go_wp2_with fail
            refine (K0.out k hn w3).mono ?_
            rintro e w4 ⟨a4, c4, rfl, t4⟩
            have T4 := hid t4
            clear t4
            go_wp2_with fail
            go_ret
            exact ⟨rfl, (T1.out.trans T3.out (fun _ _ e => e)).trans T4.out (fun _ _ e => e)⟩
          · have h1I : 1 < (k : Int) := by omega
            obtain ⟨m, hm⟩ : ∃ m, m = k - 1 := ⟨_, rfl⟩
            obtain ⟨q, hq⟩ : ∃ q, m / 258 = q := ⟨_, rfl⟩
            obtain ⟨r, hr⟩ : ∃ r, m % 258 = r := ⟨_, rfl⟩
            have hmI : (k : Int) - 1 = (m : Int) := by omega
            have hqI : (m : Int) / 258 = (q : Int) := by omega
            have hrI : (m : Int) % 258 = (r : Int) := by omega
            have hn2 : q ≤ 20 ∧ r < 258 ∧ m ≤ 5000 := by omega
            have hqb : (q : Int) ≤ 20 := by omega
            have hrb : (r : Int) < 258 := by omega
            by_cases hc : 3 ≤ r
            · have hcI : (3 : Int) ≤ (r : Int) := by omega
              have hx0 := hc
              have hk0 : min k 1 + cS (k - min k 1) = 1 + q + 1 := by
                have e1 : min k 1 = 1 := by omega
                rw [e1, ← hm]
                rw [cS_some m q r hq hr hc]
                omega
              have K1' := K1.out k hn
              rw [hk0] at K1'
              clear K1 hk0 hm hq hr hn2
              go_wp2_with fail
              refine (K1' wr).mono ?_
              rintro e w3 ⟨a, c, rfl, t3⟩
              have hcv3 := C2H.out w3 t3
              have T3 := hid t3
              clear t3 hcv K1'
              go_wp2_with fail
              refine (K0.out k hn w3).mono ?_
              rintro e w4 ⟨a4, c4, rfl, t4⟩
              have T4 := hid t4
              clear t4
              go_wp2_with fail
              go_ret
              exact ⟨rfl, (T1.out.trans T3.out (fun _ _ e => e)).trans T4.out (fun _ _ e => e)⟩
            · have hcI : (r : Int) < 3 := by omega
              have hx0 := hc
              have hk0 : min k 1 + cS (k - min k 1) = 1 + q + r := by
                have e1 : min k 1 = 1 := by omega
                rw [e1, ← hm]
                rw [cS_few m q r hq hr hc]
                omega
              have K1' := K1.out k hn
              rw [hk0] at K1'
              clear K1 hk0 hm hq hr hn2
              go_wp2_with fail
              refine (K1' wr).mono ?_
              rintro e w3 ⟨a, c, rfl, t3⟩
              have hcv3 := C2H.out w3 t3
              have T3 := hid t3
              clear t3 hcv K1'
              go_wp2_with fail
              refine (K0.out k hn w3).mono ?_
              rintro e w4 ⟨a4, c4, rfl, t4⟩
              have T4 := hid t4
              clear t4
              go_wp2_with fail
              go_ret
              exact ⟨rfl, (T1.out.trans T3.out (fun _ _ e => e)).trans T4.out (fun _ _ e => e)⟩
    · obtain ⟨n, rfl⟩ : ∃ n : Nat, N = (n : Int) := ⟨N.toNat, by omega⟩
      go_upto_region 5 with fail
      have hn : n ≤ 5000 := by omega
      clear h0 h5
      go_wp2_with (first
        | (at_make; refine wpList_make_full _ rfl _ _ 25 rfl w1.heap.size 5 i0 (.int .u8 0) 1 Try.underlying25 hin hz0 hz1 .i64 .i64 _ _ n rfl rfl rfl rfl (by rw [hz2]; omega) (by unfold maxLen; omega) (by omega) ?_))
      intro w2 hown hgrow
      rw [toList_madeCells_one] at hown
      have TG := hid (T1.out.grown hgrow (fun k e => by simp at e))
      obtain ⟨g, hg⟩ : ∃ g, g = w1.heap.size := ⟨_, rfl⟩
      rw [← hg] at hown ⊢
      have O := hid (show w2.ownsRow 0 5 1 (.slice (some ⟨g, 0, none⟩) n n) n (bytesV (fillTo b n 0)) from by
        rw [fill_zero]
        refine ⟨hown.1, ?_⟩
        rcases hown.2 with h | ⟨g', cap, cur, hv, _, r⟩
        · exact .inl h
        · exact .inr ⟨g', cap, cur, hv, Nat.zero_le _, r⟩)
      have HG := hid (show w.heap.size ≤ g by have := T1.out.size; omega)
      clear hown hgrow hg T1
      go_wp2_with fail
      go_loopg [6] n (fun gk i wr => ∃ k : Nat, k + gk = n ∧ i = .int .i64 (k : Nat) ∧ wr.ownsRow 0 5 1 (.slice (some ⟨g, 0, none⟩) n n) n (bytesV (fillTo b n k)) ∧ Touch (fun _ => False) w wr)
      case atStart => exact ⟨0, by omega, rfl, O.out, TG.out⟩
      case round =>
        obtain ⟨k, hk, rfl, ho, ht⟩ := hrel
        have O1 := hid ho
        have T1 := hid ht
        clear ho ht
        by_cases hlt : k < n
        · have hltI : (k : Int) < (n : Int) := by omega
          obtain ⟨x, hx⟩ : ∃ x : Nat, wr.cell? ⟨g, k, none⟩ = some (.int .u8 (x : Nat)) := by
            have hl : k < (bytesV (fillTo b n k)).length := by simp [bytesV, fillTo]; omega
            have := O1.out.cells (g := g) rfl k ((bytesV (fillTo b n k))[k]) (List.getElem?_eq_getElem hl)
            rw [add_zero] at this
            exact ⟨(fillTo b n k)[k]'(by simpa [bytesV] using hl), by rw [this]; simp [bytesV]⟩
          have hfz : wr.frozen? ⟨g, k, none⟩ = false := by
            rcases O1.out.2 with ⟨h, _⟩ | ⟨g', cap, cur, hv, _, hh, _⟩
            · simp at h
            · simp at hv
              obtain ⟨rfl, rfl⟩ := hv
              simp [World.frozen?, hh]
          go_wp2
          go_roundg (gk - 1)
          case measure => omega
          case rel =>
            refine ⟨k + 1, by omega, by go_num, ?_, T1.out.setCell (fun h => absurd h (by have := HG.out; simp; omega)) _⟩
            have := (O1.out.stored k (.int .u8 (b : Nat))).1
            rw [fill_set]
            have e : bytesV ((fillTo b n k).set k b) = (bytesV (fillTo b n k)).set k (.int .u8 (b : Nat)) := by
              unfold bytesV
              rw [List.map_set]
            rw [e]
            exact this
        · obtain rfl : k = n := by omega
          have O2 := hid (show wr.ownsRow 0 5 1 (.slice (some ⟨g, 0, none⟩) k k) k (bytesV (List.replicate k b)) by rw [← fill_all]; exact O1.out)
          clear O1 O TG hlt hk
          have hcv := CV.out wr wr g k O2.out rfl
          have C2 := fun w' (h : Touch (fun _ => False) wr w') => CV.out w' w' g k (own_kept O2.out (fun q hq => h.block q (by simp [Value.ownBlock] at hq; subst hq; exact (O2.out.lt _ rfl).2) id)) rfl
          have C2H := hid C2
          clear C2 CV
          by_cases h1 : k ≤ 1
          · have h1I : (k : Int) ≤ 1 := by omega
            have hk0 : min k 1 + cS (k - min k 1) = k := by
              have e : min k 1 = k := by omega
              rw [e, Nat.sub_self]
              rfl
            have K1' := K1.out k hn
            rw [hk0] at K1'
            clear K1 hk0
            go_wp2_with fail
            refine (K1' wr).mono ?_
            rintro e w3 ⟨a, c, rfl, t3⟩
            have hcv3 := C2H.out w3 t3
            have T3 := hid t3
            clear t3 hcv K1'
            go_wp2_with fail
            refine (K0.out k hn w3).mono ?_
            rintro e w4 ⟨a4, c4, rfl, t4⟩
            have T4 := hid t4
            clear t4
            go_wp2_with fail
            go_ret
            exact ⟨rfl, (T1.out.trans T3.out (fun _ _ e => e)).trans T4.out (fun _ _ e => e)⟩
          · have h1I : 1 < (k : Int) := by omega
            obtain ⟨m, hm⟩ : ∃ m, m = k - 1 := ⟨_, rfl⟩
            obtain ⟨q, hq⟩ : ∃ q, m / 258 = q := ⟨_, rfl⟩
            obtain ⟨r, hr⟩ : ∃ r, m % 258 = r := ⟨_, rfl⟩
            have hmI : (k : Int) - 1 = (m : Int) := by omega
            have hqI : (m : Int) / 258 = (q : Int) := by omega
            have hrI : (m : Int) % 258 = (r : Int) := by omega
            have hn2 : q ≤ 20 ∧ r < 258 ∧ m ≤ 5000 := by omega
            have hqb : (q : Int) ≤ 20 := by omega
            have hrb : (r : Int) < 258 := by omega
            by_cases hc : 3 ≤ r
            · have hcI : (3 : Int) ≤ (r : Int) := by omega
              have hx0 := hc
              have hk0 : min k 1 + cS (k - min k 1) = 1 + q + 1 := by
                have e1 : min k 1 = 1 := by omega
                rw [e1, ← hm]
                rw [cS_some m q r hq hr hc]
                omega
              have K1' := K1.out k hn
              rw [hk0] at K1'
              clear K1 hk0 hm hq hr hn2
              go_wp2_with fail
              refine (K1' wr).mono ?_
              rintro e w3 ⟨a, c, rfl, t3⟩
              have hcv3 := C2H.out w3 t3
              have T3 := hid t3
              clear t3 hcv K1'
              go_wp2_with fail
              refine (K0.out k hn w3).mono ?_
              rintro e w4 ⟨a4, c4, rfl, t4⟩
              have T4 := hid t4
              clear t4
              go_wp2_with fail
              go_ret
              exact ⟨rfl, (T1.out.trans T3.out (fun _ _ e => e)).trans T4.out (fun _ _ e => e)⟩
            · have hcI : (r : Int) < 3 := by omega
              have hx0 := hc
              have hk0 : min k 1 + cS (k - min k 1) = 1 + q + r := by
                have e1 : min k 1 = 1 := by omega
                rw [e1, ← hm]
                rw [cS_few m q r hq hr hc]
                omega
              have K1' := K1.out k hn
              rw [hk0] at K1'
              clear K1 hk0 hm hq hr hn2
              go_wp2_with fail
              refine (K1' wr).mono ?_
              rintro e w3 ⟨a, c, rfl, t3⟩
              have hcv3 := C2H.out w3 t3
              have T3 := hid t3
              clear t3 hcv K1'
              go_wp2_with fail
              refine (K0.out k hn w3).mono ?_
              rintro e w4 ⟨a4, c4, rfl, t4⟩
              have T4 := hid t4
              clear t4
              go_wp2_with fail
              go_ret
              exact ⟨rfl, (T1.out.trans T3.out (fun _ _ e => e)).trans T4.out (fun _ _ e => e)⟩
end Go.Proofs.Ythengfclijclmaa
