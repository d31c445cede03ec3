/- Texts of this proof, one behind the other: what each says stands ahead of it. -/
import Derived.Test.YthengfclijclmaaM17
import Derived.Test.YthengfclijclmaaM0
import Derived.Test.YthengfclijclmaaM7
import Derived.Test.YthengfclijclmaaM16
import Derived.Test.YthengfclijclmaaM6
import Derived.Test.YthengfclijclmaaM13
/- Put, Code, Bytes and All of a writer that is part of something greater; conditions: those told. -/
namespace Go.Proofs.Ythengfclijclmaa.G
open Go.RowKit Go.Lib

set_option maxHeartbeats 400000 in
theorem put_yes (rs : List Value) (ty : TypeId) (b : Nat) (bs : List Bool) (v : Int) (n : Nat) (w : World) (h : Wr rs ty w b bs) (hlen : bs.length + n < 1125899906842624) (hn : n ≤ 32) :
    Calls Try.prog 18 #[.pointer (some ⟨b, 0, none⟩), .int .i64 v, .int .i64 n] w fun e w' => e = .returned (.tuple #[]) ∧ WStep rs ty w w' b (bs ++ (List.range n).map (ibit v)) := by
  go_enter Try.func18, Try.ntmps18
  go_wp2_with (go_at_call 35; refine (fits_yes _ _ (by omega) (by omega)).mono ?_; rintro e w ⟨rfl, rfl⟩)
  go_loopw [15] (fun i wr => ∃ k : Nat, k ≤ n ∧ i = .int .i64 k ∧ WStep rs ty w wr b (bs ++ (List.range k).map (ibit v))) (fun i _ => n - (intOf i).toNat)
  case atStart => exact ⟨0, Nat.zero_le _, rfl, by simpa using WStep.refl h⟩
  case round =>
    obtain ⟨k, hk, rfl, hst⟩ := hrel
    by_cases hlt : k < n
    · go_wp2_with fail
      rw [i64_and1]
      have hm := Int.emod_nonneg (v / 2 ^ k) (b := 2) (by decide)
      have hm' := Int.emod_lt_of_pos (v / 2 ^ k) (b := 2) (by decide)
      refine (bit_any rs ty b _ (v / 2 ^ k % 2) _ hst.wr (by simp; omega) hm (by omega)).mono ?_
      rintro e w1 ⟨rfl, hst1⟩
      have H : Hid _ := hst.trans hst1
      clear hst hst1 hm hm'
      go_wp2
      go_roundw
      case rel => exact ⟨k + 1, by omega, by go_num, by have := H.out; rw [List.append_assoc] at this; rw [List.range_succ, List.map_append]; exact this⟩
      case measure => simp [intOf]; omega
    · obtain rfl : k = n := by omega
      go_wp2
      go_end0
      exact ⟨rfl, hst⟩
set_option maxHeartbeats 400000 in
theorem code_yes (rs : List Value) (ty : TypeId) (b : Nat) (bs : List Bool) (v : Int) (n : Nat) (w : World) (h : Wr rs ty w b bs) (hlen : bs.length + n < 1125899906842624) (hn : n ≤ 32) :
    Calls Try.prog 77 #[.pointer (some ⟨b, 0, none⟩), .int .i64 v, .int .i64 n] w fun e w' => e = .returned (.tuple #[]) ∧ WStep rs ty w w' b (bs ++ (List.range n).map (fun i => ibit v (n - 1 - i))) := by
  go_enter Try.func77, Try.ntmps77
  go_wp2_with (go_at_call 35; refine (fits_yes _ _ (by omega) (by omega)).mono ?_; rintro e w ⟨rfl, rfl⟩)
  go_loopw [15] (fun i wr => ∃ k : Nat, k ≤ n ∧ i = .int .i64 k ∧ WStep rs ty w wr b (bs ++ (List.range k).map (fun i => ibit v (n - 1 - i)))) (fun i _ => n - (intOf i).toNat)
  case atStart => exact ⟨0, Nat.zero_le _, rfl, by simpa using WStep.refl h⟩
  case round =>
    obtain ⟨k, hk, rfl, hst⟩ := hrel
    by_cases hlt : k < n
    · have hs : (0 : Int) ≤ (n : Int) - 1 - k := by omega
      go_wp2_with fail
      rw [i64_and1]
      have hm := Int.emod_nonneg (v / 2 ^ (n - 1 - k)) (b := 2) (by decide)
      have hm' := Int.emod_lt_of_pos (v / 2 ^ (n - 1 - k)) (b := 2) (by decide)
      refine (bit_any rs ty b _ (v / 2 ^ (n - 1 - k) % 2) _ hst.wr (by simp; omega) hm (by omega)).mono ?_
      rintro e w1 ⟨rfl, hst1⟩
      have H : Hid _ := hst.trans hst1
      clear hst hst1 hm hm'
      go_wp2
      go_roundw
      case rel => exact ⟨k + 1, by omega, by go_num, by have := H.out; rw [List.append_assoc] at this; rw [List.range_succ, List.map_append]; exact this⟩
      case measure => simp [intOf]; omega
    · obtain rfl : k = n := by omega
      go_wp2
      go_end0
      exact ⟨rfl, hst⟩

theorem all_any (rs : List Value) (ty : TypeId) (b : Nat) (bs : List Bool) (w : World) (h : Wr rs ty w b bs) :
    Calls Try.prog 20 #[.pointer (some ⟨b, 0, none⟩)] w fun e w' => e = .returned (.string (strOf (Bt.pack bs))) ∧ w' = w := by
  obtain ⟨hty, v, hb, hown⟩ := h
  have h0 := cell_two0 hb
  have hl : (bytesV (Bt.pack bs)).length = (bs.length + 7) / 8 := by simp [bytesV, Bt.length_pack]
  rcases hown.2 with ⟨rfl, hz⟩ | ⟨g, cap, cur, rfl, _, hh, hle, _⟩
  · have hcv := run_convert_bytes_nil (P := Try.prog) w 25 5 Try.underlying25 Try.underlying5 0 0 9 Try.underlying9
    have e : strOf (Bt.pack bs) = ByteArray.empty := by
      rw [List.eq_nil_of_length_eq_zero (l := Bt.pack bs) (by rw [Bt.length_pack]; exact hz)]
      rfl
    rw [e]
    clear hown hb hl
    go_enter Try.func20, Try.ntmps20
    go_wp2
    go_ret
    exact ⟨rfl, rfl⟩
  · have hc : ∀ j (hj : j < ((Bt.pack bs).map UInt8.ofNat).length), w.cell? ((⟨g, 0, none⟩ : Addr).add j) = some (.int .u8 ((((Bt.pack bs).map UInt8.ofNat)[j]).toNat : Int)) := by
      intro j hj
      simp only [List.length_map] at hj
      refine hown.cells rfl j _ ?_
      have hlt := Bt.pack_lt bs _ (List.getElem_mem hj)
      simp only [bytesV, List.getElem?_map, List.getElem?_eq_getElem hj, Option.map_some, List.getElem_map]
      rw [UInt8.toNat_ofNat_of_lt' (by simpa using hlt)]
    have hcv := run_convert_bytes_back (P := Try.prog) w 25 9 5 ⟨g, 0, none⟩ cap ((Bt.pack bs).map UInt8.ofNat) Try.underlying25 Try.underlying5 Try.underlying9 hc
    rw [List.length_map, Bt.length_pack] at hcv
    clear hown hb hl hc hh
    go_enter Try.func20, Try.ntmps20
    go_wp2
    go_ret
    exact ⟨rfl, rfl⟩
theorem strCells_eq (s : ByteArray) : strCells s = bytesV (Bt.strNats s) := by
  unfold strCells bytesV Bt.strNats
  rw [List.map_map]
  apply List.ext_getElem
  · simp
  · intro i h1 h2
    have hi : i < s.data.size := by simpa using h1
    simp only [List.getElem_map, List.getElem_range, Function.comp_def, Array.getElem_toList, Bt.byteN, Array.getD]
    rw [dif_pos hi]
    rfl

set_option maxHeartbeats 400000 in
theorem wbytes_raw (rs : List Value) (ty : TypeId) (hty : ty ≠ 5) (b n q : Nat) (v : Value) (xs : List Value) (s : ByteArray) (w : World) (hv : (∃ g cap, v = .slice (some ⟨g, 0, none⟩) n cap) ∨ v = .slice none 0 0)
    (hown : w.ownsRow 0 5 1 v n xs) (hb : w.heap[b]? = some (.cells ⟨v :: .int .i64 q :: rs⟩ ty (0, 0))) (hlen : n + s.size ≤ 140737488355328) :
    Calls Try.prog 52 #[.pointer (some ⟨b, 0, none⟩), .string s] w fun e w' => e = .returned (.tuple #[]) ∧
      ∃ w1 v', w1.ownsRow 0 5 1 v' (n + s.size) (xs ++ strCells s) ∧ w.grownBy w1 v.ownBlock ∧ (v'.ownBlock = v.ownBlock ∨ ∃ g, v'.ownBlock = some g ∧ w.heap.size ≤ g) ∧
      w' = ((w1.setCell ⟨b, 0, none⟩ v').setCell ⟨b, 1, none⟩ (.int .i64 (8 * (n + s.size : Nat)))) := by
  obtain ⟨i0, hi, hz0, hz1, hz2⟩ := info_parts Try.info5
  have hblt : b < w.heap.size := lt_of_block hb
  have hbv : v.ownBlock ≠ some b := by
    intro e
    rcases hown.2 with ⟨rfl, _⟩ | ⟨g, cap, cur, rfl, _, hh, _⟩
    · simp [Value.ownBlock] at e
    · simp [Value.ownBlock] at e
      subst e
      rw [hb] at hh
      simp at hh
      exact hty hh.2
  have h0 := cell_two0 hb
  have key : ∀ (v' : Value) (w1 : World), w1.ownsRow 0 5 1 v' (n + s.size) (xs ++ strCells s) → w.grownBy w1 v.ownBlock →
      ((∃ g cap, v' = .slice (some ⟨g, 0, none⟩) (n + s.size) cap) ∨ (v' = .slice none 0 0 ∧ n + s.size = 0)) ∧ w1.heap[b]? = some (.cells ⟨v :: .int .i64 q :: rs⟩ ty (0, 0)) := by
    intro v' w1 hown' hgrow
    refine ⟨?_, ?_⟩
    · rcases hown'.2 with h | ⟨g, cap, cur, rfl, _⟩
      · exact .inr h
      · exact .inl ⟨g, cap, rfl⟩
    · rw [hgrow.block b hblt (fun e => hbv e.symm)]; exact hb
  have KEY : Hid _ := key
  clear key hb hbv hblt
  rcases hv with ⟨g, cap, rfl⟩ | rfl
  all_goals
    go_enter Try.func52, Try.ntmps52
    go_wp2_with (first
      | (at_builtin; refine wpList_append_string_at _ rfl _ _ 25 9 rfl 5 i0 Try.underlying25 Try.underlying9 hi hz0 hz1 hz2 _ _ _ rfl hown s rfl (by unfold maxLen; omega) (by omega) ?_)
      | go_in)
    intro v' w1 hown' hgrow hwh
    obtain ⟨hv', hb1⟩ := KEY.out v' w1 hown' hgrow
    have k0 := cell_two0 hb1
    have k1 := cell_two1 hb1
    have kf0 := free_two (i := 0) hb1
    have kf1 := free_two (i := 1) hb1
    clear KEY hown h0
    rcases hv' with ⟨g1, cap1, hv1⟩ | ⟨hv1, hz⟩
    · rw [hv1] at hown' hwh ⊢
      have H1 : Hid _ := hown'
      have H2 : Hid _ := hgrow
      have H3 : Hid _ := hwh
      clear hv1 hown' hgrow hwh
      go_wp2
      go_end0
      exact ⟨rfl, w1, _, H1.out, H2.out, H3.out, by simp⟩
    · rw [hv1]
      have H1 : Hid _ := hown'
      have H2 : Hid _ := hgrow
      have H3 : Hid _ := hwh
      have HZ : Hid _ := hz
      have HV : Hid _ := hv1
      clear hv1 hown' hgrow hwh hz
      go_wp2
      go_end0
      exact ⟨rfl, w1, v', H1.out, H2.out, H3.out, by rw [HV.out, HZ.out]; rfl⟩

theorem wbytes_any (rs : List Value) (ty : TypeId) (b : Nat) (bs : List Bool) (s : ByteArray) (w : World) (h : Wr rs ty w b bs) (hlen : (bs.length + 7) / 8 + s.size ≤ 140737488355328) :
    Calls Try.prog 52 #[.pointer (some ⟨b, 0, none⟩), .string s] w fun e w' => e = .returned (.tuple #[]) ∧ WStep rs ty w w' b (Bt.behind bs s) := by
  obtain ⟨hty, v, hb, hown⟩ := h
  refine (wbytes_raw rs ty hty b _ bs.length v _ s w ?_ hown hb hlen).mono ?_
  · rcases hown.2 with ⟨h, _⟩ | ⟨g, cap, cur, h, _⟩
    · exact .inr h
    · exact .inl ⟨g, cap, h⟩
  · rintro e w' ⟨rfl, w1, v', hown1, hgrow, hwh, rfl⟩
    have hbv : v.ownBlock ≠ some b := by
      intro e
      rcases hown.2 with ⟨rfl, _⟩ | ⟨g, cap, cur, rfl, _, hh, _⟩
      · simp [Value.ownBlock] at e
      · simp [Value.ownBlock] at e
        subst e
        rw [hb] at hh
        simp at hh
        exact hty hh.2
    have hblt := lt_of_block hb
    have hb1 : w1.heap[b]? = some (.cells ⟨v :: .int .i64 bs.length :: rs⟩ ty (0, 0)) := by
      rw [hgrow.block b hblt (fun e => hbv e.symm)]; exact hb
    have hvb : v'.ownBlock ≠ some b := by
      intro e
      rcases hown1.2 with ⟨rfl, _⟩ | ⟨g, cap, cur, rfl, _, hh, _⟩
      · simp [Value.ownBlock] at e
      · simp [Value.ownBlock] at e
        subst e
        rw [hb1] at hh
        simp at hh
        exact hty hh.2
    have hfb : Fp rs ty w b b := Fp.self rs ty w b
    have hfv : ∀ k, v.ownBlock = some k → Fp rs ty w b k := fun k hk => .inr ⟨v, _, hb, hk⟩
    have kb : ((w1.setCell ⟨b, 0, none⟩ v').setCell ⟨b, 1, none⟩ (.int .i64 (8 * ((bs.length + 7) / 8 + s.size : Nat)))).heap[b]? = some (.cells ⟨v' :: .int .i64 (Bt.behind bs s).length :: rs⟩ ty (0, 0)) := by
      have k2 := two_set1 (x := .int .i64 (8 * ((bs.length + 7) / 8 + s.size : Nat))) (two_set0 (x := v') hb1)
      rw [Bt.length_behind]
      rw [show ((8 * ((bs.length + 7) / 8 + s.size) : Nat) : Int) = 8 * (((bs.length + 7) / 8 + s.size : Nat) : Int) by omega]
      exact k2
    refine ⟨rfl, ⟨hty, v', kb, ?_⟩, ?_, ?_⟩
    · refine ownsRow_setCell_other (ownsRow_setCell_other ?_ hvb _) hvb _
      rw [Bt.pack_behind, Bt.length_behind, show (8 * ((bs.length + 7) / 8 + s.size) + 7) / 8 = (bs.length + 7) / 8 + s.size by omega]
      rw [strCells_eq] at hown1
      simpa [bytesV] using hown1
    · exact Touch.setCell (Touch.setCell ((Touch.refl _ w).grown hgrow (fun k hk _ => hfv k hk)) (fun _ => hfb) _) (fun _ => hfb) _
    · intro k hk
      rcases hk with hk | ⟨v2, c2, hk, ho⟩
      · exact .inl (.inl hk)
      · rw [kb] at hk
        simp at hk
        obtain ⟨rfl, rfl⟩ := hk
        rcases hwh with h | ⟨g, h, hg⟩
        · exact .inl (hfv k (by rw [← h]; exact ho))
        · rw [h] at ho
          simp at ho
          exact .inr (by omega)

end Go.Proofs.Ythengfclijclmaa.G

/- The codes of fixed blocks, and where three bytes stood; conditions: those told. -/
namespace Go.Proofs.Ythengfclijclmaa
open Go.RowKit
open Go.Lib

/-- A row of the call's own reads as numbers. -/
theorem own_intsQ {w : World} {base : Nat} {v : Value} {len : Nat} {f : Nat → Int} (h : w.ownsRow base 3 1 v len ((List.range len).map fun i => .int .i64 (f i))) : ∃ a c, v = .slice a len c ∧ Ints w a len f ∧ len ≤ c ∧ ∀ b o, a = some ⟨b, o, none⟩ → base ≤ b := by
  have hlen : len = len := rfl
  rcases h.2 with ⟨h1, h2⟩ | ⟨g, cap, cur, hv, hg, hh, hle, _⟩
  · exact ⟨none, 0, by rw [h1, h2], .inl h2, by omega, fun b o e => by cases e⟩
  · refine ⟨some ⟨g, 0, none⟩, cap, hv, .inr ⟨g, 0, rfl, lt_of_block hh, fun i hi => ?_⟩, hle, fun b o e => by simp at e; omega⟩
    have := h.cells (g := g) (by rw [hv]; rfl) i (.int .i64 (f i)) (by simp [hi])
    rw [add_zero] at this
    rw [Nat.zero_add]
    exact this
theorem ints_belowQ {w : World} {a : Option Addr} {len : Nat} {f : Nat → Int} (h : Ints w a len f) : ∀ b o, a = some ⟨b, o, none⟩ → 0 < len → b < w.heap.size := fun b o ha h0 => by
  rcases h with h | ⟨b', o', ha', hb, _⟩
  · omega
  · rw [ha] at ha'
    simp at ha'
    omega
theorem Ints.apart {S : Nat → Prop} {w w' : World} {a : Option Addr} {len : Nat} {f : Nat → Int} (h : Ints w a len f) (t : Touch S w w') (hs : ∀ b o, a = some ⟨b, o, none⟩ → 0 < len → b < w.heap.size → ¬ S b) : Ints w' a len f := by
  rcases h with h | ⟨b, o, ha, hb, hc⟩
  · exact .inl h
  · rcases Nat.eq_zero_or_pos len with h0 | h0
    · exact .inl h0
    · exact .inr ⟨b, o, ha, Nat.lt_of_lt_of_le hb t.size, fun i hi => (t.cell (p := ⟨b, o + i, none⟩) hb (hs b o ha h0 hb)).trans (hc i hi)⟩
/-- A book in memory: codes and lengths. -/
structure Bkd (w : World) (vc vl : Value) (f : Nat → Nat) (len : Nat) : Prop where
  codes : ∃ a c, vc = .slice a len c ∧ Ints w a len (fun i => (codeOf (cOf f len) f i : Nat))
  lens : ∃ a c, vl = .slice a len c ∧ Ints w a len (fun i => (f i : Nat))
theorem Bkd.new {w w' : World} {vc vl : Value} {f : Nat → Nat} {len : Nat} (h : Bkd w vc vl f len) (t : Touch (fun _ => False) w w') : Bkd w' vc vl f len := by
  obtain ⟨⟨a, c, h1, h2⟩, ⟨a', c', h3, h4⟩⟩ := h
  exact ⟨⟨a, c, h1, h2.new t⟩, ⟨a', c', h3, h4.new t⟩⟩
set_option maxRecDepth 100000 in
set_option maxHeartbeats 8000000 in
theorem bookOf_ok (a : Option Addr) (len cap : Nat) (f : Nat → Nat) (w : World) (hl : len ≤ 1024) (hf : ∀ i, f i ≤ 15) (hi : Ints w a len (fun i => (f i : Nat))) (he : errOf f len = 0) :
    Calls Try.prog 31 #[.slice a len cap] w fun e w' => ∃ vc, e = .returned (.agg #[vc, .slice a len cap]) ∧ Bkd w' vc (.slice a len cap) f len ∧ Touch (fun _ => False) w w' := by
  have T0 := hid ((Touch.refl (fun _ => False) w).alloc (.cells #[.slice none 0 0, .slice none 0 0] 60))
  have fb0 : (w.alloc (.cells #[.slice none 0 0, .slice none 0 0] 60)).heap[w.heap.size]? = some (.cells #[.slice none 0 0, .slice none 0 0] 60 (0, 0)) := by
    show (w.heap.push _)[_]? = _
    simp
  have HI := hid (hi.new T0.out)
  have HB := hid (ints_belowQ hi)
  clear hi
  have hwA : w.heap.size < (w.alloc (.cells #[.slice none 0 0, .slice none 0 0] 60)).heap.size := by simp
  obtain ⟨q, hq⟩ : ∃ q, q = w.heap.size := ⟨_, rfl⟩
  rw [← hq] at fb0 hwA
  have HQ := hid hq
  go_enter Try.func31, Try.ntmps31
  go_wp2_with fail
  rw [← hq]
  clear hq
  generalize w.alloc (.cells #[.slice none 0 0, .slice none 0 0] 60) = wA at *
  refine (new_ok a len cap f wA hl hf HI.out he).mono ?_
  rintro e w1 ⟨b, rfl, tbl, tc1⟩
  have fb1 : w1.heap[q]? = some (.cells #[.slice none 0 0, .slice none 0 0] 60 (0, 0)) := by rw [tc1.block q hwA id]; exact fb0
  have T1 := hid (T0.out.trans tc1 (fun _ _ e => e))
  have HI1 := hid (HI.out.new tc1)
  have KC := hid (codes_tbl b _ _ f len w1 hl tbl)
  have hz1 : q < w1.heap.size := Nat.lt_of_lt_of_le hwA tc1.size
  clear tbl tc1 fb0
  go_wp2_with fail
  refine KC.out.mono ?_
  rintro e w2 ⟨v, rfl, hown, tc2⟩
  have fb2 : w2.heap[q]? = some (.cells #[.slice none 0 0, .slice none 0 0] 60 (0, 0)) := by rw [tc2.block q hz1 id]; exact fb1
  have T2 := hid (T1.out.trans tc2 (fun _ _ e => e))
  have HI2 := hid (HI1.out.new tc2)
  obtain ⟨ac, cc, hv, hic, _, hnew⟩ := own_intsQ (f := fun i => (codeOf (cOf f len) f i : Nat)) hown
  subst hv
  have HIC := hid hic
  have HN := hid (show ∀ b o, ac = some ⟨b, o, none⟩ → q < b from fun b o e => Nat.lt_of_lt_of_le hz1 (hnew b o e))
  have k0 := cell_two0 fb2
  have k1 := cell_two1 fb2
  have kf0 := free_two (i := 0) fb2
  have kf1 := free_two (i := 1) fb2
  have FB2 := hid fb2
  clear tc2 fb1 fb2 hown hic KC hnew
  go_wp2
  have hfb := two_set1 (x := .slice a len cap) (two_set0 (x := .slice ac len cc) FB2.out)
  refine bodyPost_ret (results_c rfl _ _ q 60 _ (0, 0) _ rfl hfb Try.underlying60 rfl (by kernel_rfl)) rfl ?_
  have hqw := HQ.out
  have tcs := (T2.out.setCell (p := ⟨q, 0, none⟩) (fun h => absurd h (by simp; omega)) (.slice ac len cc)).setCell (p := ⟨q, 1, none⟩) (fun h => absurd h (by simp; omega)) (.slice a len cap)
  have tks := ((Touch.refl (fun k => k = q) w2).setCell (p := ⟨q, 0, none⟩) (fun _ => rfl) (.slice ac len cc)).setCell (p := ⟨q, 1, none⟩) (fun _ => rfl) (.slice a len cap)
  refine ⟨_, rfl, ⟨⟨ac, cc, rfl, HIC.out.apart tks (fun b o e _ _ hk => ?_)⟩, ⟨a, cap, rfl, HI2.out.apart tks (fun b o e h0 _ hk => ?_)⟩⟩, tcs⟩
  · have := HN.out b o e
    omega
  · have := HB.out b o e h0
    omega
theorem blk_set {w : World} {b : Nat} {cs : Array Value} {ty : TypeId} (h : w.heap[b]? = some (.cells cs ty (0, 0))) (i : Nat) (x : Value) : (w.setCell ⟨b, i, none⟩ x).heap[b]? = some (.cells (cs.set! i x) ty (0, 0)) := by
  have hlt := lt_of_block h
  have h' : w.heap[b] = .cells cs ty (0, 0) := by simpa [Array.getElem?_eq_getElem hlt] using h
  show (w.heap.modify b _)[b]? = _
  rw [Array.getElem?_eq_getElem (by simpa using hlt), Array.getElem_modify_self, h']
  rfl
theorem blk_cell {w : World} {b : Nat} {cs : Array Value} {ty : TypeId} (h : w.heap[b]? = some (.cells cs ty (0, 0))) (i : Nat) (hi : i < cs.size) : w.cell? ⟨b, i, none⟩ = some cs[i] := by simp [World.cell?, h, hi]
theorem ints_neq {w : World} {a : Option Addr} {len q : Nat} {f : Nat → Int} {cs : Array Value} {ty : TypeId} (h : Ints w a len f) (hq : w.heap[q]? = some (.cells cs ty (0, 0))) (hn : ∀ i (h : i < cs.size) n, cs[i] ≠ .int .i64 n) : ∀ b o, a = some ⟨b, o, none⟩ → 0 < len → b < w.heap.size → ¬ b = q := fun b o ha h0 _ e => by
  subst e
  rcases h with h | ⟨b', o', ha', _, hc⟩
  · omega
  · rw [ha] at ha'
    simp only [Option.some.injEq, Addr.mk.injEq, and_true] at ha'
    obtain ⟨rfl, rfl⟩ := ha'
    have := hc 0 h0
    simp only [World.cell?, hq, Nat.add_zero] at this
    rcases Nat.lt_or_ge o cs.size with k | k
    · rw [Array.getElem?_eq_getElem k] at this
      exact hn o k _ (Option.some.inj this)
    · rw [Array.getElem?_eq_none k] at this
      cases this
theorem Bkd.apart {S : Nat → Prop} {w w' : World} {vc vl : Value} {f : Nat → Nat} {len q : Nat} {cs : Array Value} {ty : TypeId} (h : Bkd w vc vl f len) (t : Touch S w w') (hq : w.heap[q]? = some (.cells cs ty (0, 0))) (hn : ∀ i (h : i < cs.size) n, cs[i] ≠ .int .i64 n) (hS : ∀ b, S b → b = q) : Bkd w' vc vl f len := by
  obtain ⟨⟨a, c, h1, h2⟩, ⟨a', c', h3, h4⟩⟩ := h
  exact ⟨⟨a, c, h1, h2.apart t (fun b o e h0 hb hs => ints_neq h2 hq hn b o e h0 hb (hS b hs))⟩, ⟨a', c', h3, h4.apart t (fun b o e h0 hb hs => ints_neq h4 hq hn b o e h0 hb (hS b hs))⟩⟩
theorem blk_free {w : World} {b : Nat} {cs : Array Value} {ty : TypeId} (h : w.heap[b]? = some (.cells cs ty (0, 0))) (i : Nat) : w.frozen? ⟨b, i, none⟩ = false := by simp [World.frozen?, h]
set_option maxRecDepth 100000 in
set_option maxHeartbeats 8000000 in
theorem fixedCodes_any (w : World) : Calls Try.prog 16 #[] w fun e w' => ∃ c1 l1 c2 l2, e = .returned (.agg #[c1, l1, c2, l2]) ∧ Bkd w' c1 l1 Inf.fixL 288 ∧ Bkd w' c2 l2 Inf.fixD 32 ∧ Touch (fun _ => False) w w' := by
  have T0 := hid ((Touch.refl (fun _ => False) w).alloc (.cells #[.slice none 0 0, .slice none 0 0, .slice none 0 0, .slice none 0 0] 62))
  have FB0 := hid (show (w.alloc (.cells #[.slice none 0 0, .slice none 0 0, .slice none 0 0, .slice none 0 0] 62)).heap[w.heap.size]? = some (.cells #[.slice none 0 0, .slice none 0 0, .slice none 0 0, .slice none 0 0] 62 (0, 0)) by
    show (w.heap.push _)[_]? = _
    simp)
  have hwA : w.heap.size < (w.alloc (.cells #[.slice none 0 0, .slice none 0 0, .slice none 0 0, .slice none 0 0] 62)).heap.size := by simp
  obtain ⟨q, hq⟩ : ∃ q, q = w.heap.size := ⟨_, rfl⟩
  rw [← hq] at FB0 hwA
  have HQ := hid hq
  go_enter Try.func16, Try.ntmps16
  go_wp2_with fail
  rw [← hq]
  clear hq
  generalize w.alloc (.cells #[.slice none 0 0, .slice none 0 0, .slice none 0 0, .slice none 0 0] 62) = wA at *
  refine (fixedL_any wA).mono ?_
  rintro e w1 ⟨a1, p1, rfl, i1, t1⟩
  have K1 := hid (bookOf_ok a1 288 p1 Inf.fixL w1 (by decide) fixL_le i1 err_fixL)
  have T1 := hid t1
  clear i1 t1
  go_wp2_with fail
  refine K1.out.mono ?_
  rintro e w2 ⟨vc1, rfl, bk1, t2⟩
  have B1 := hid bk1
  have T2 := hid (T1.out.trans t2 (fun _ _ e => e))
  obtain ⟨ac1, cc1, hv1, _⟩ := bk1.codes
  subst hv1
  clear bk1 t2 K1
  go_wp2_with fail
  refine (fixedD_any w2).mono ?_
  rintro e w3 ⟨g3, rfl, i3, t3⟩
  have K3 := hid (bookOf_ok (some ⟨g3, 0, none⟩) 32 32 Inf.fixD w3 (by decide) fixD_le i3 err_fixD)
  have B2 := hid (B1.out.new t3)
  have T3 := hid (T2.out.trans t3 (fun _ _ e => e))
  clear i3 t3
  go_wp2_with fail
  refine K3.out.mono ?_
  rintro e w4 ⟨vc2, rfl, bk2, t4⟩
  have B4 := hid bk2
  have B3 := hid (B2.out.new t4)
  have T4 := hid (T3.out.trans t4 (fun _ _ e => e))
  obtain ⟨ac2, cc2, hv2, _⟩ := bk2.codes
  subst hv2
  have fb4 := (T4.out.block q hwA id).trans FB0.out
  have k0 := blk_cell fb4 0 (by decide)
  have k1 := blk_cell fb4 1 (by decide)
  have k2 := blk_cell fb4 2 (by decide)
  have k3 := blk_cell fb4 3 (by decide)
  have f0 := blk_free fb4 0
  have f1 := blk_free fb4 1
  have f2 := blk_free fb4 2
  have f3 := blk_free fb4 3
  have FB4 := hid fb4
  clear bk2 t4 K3 fb4
  go_wp2
  have hfb := blk_set (blk_set (blk_set (blk_set FB4.out 0 (.slice ac1 288 cc1)) 1 (.slice a1 288 p1)) 2 (.slice ac2 32 cc2)) 3 (.slice (some ⟨g3, 0, none⟩) 32 32)
  refine bodyPost_ret (results_c rfl _ _ q 62 _ (0, 0) _ rfl hfb Try.underlying62 rfl (by kernel_rfl)) rfl ?_
  have hqw := HQ.out
  have tks := ((((Touch.refl (fun k => k = q) w4).setCell (p := ⟨q, 0, none⟩) (fun _ => rfl) (.slice ac1 288 cc1)).setCell (p := ⟨q, 1, none⟩) (fun _ => rfl) (.slice a1 288 p1)).setCell (p := ⟨q, 2, none⟩) (fun _ => rfl) (.slice ac2 32 cc2)).setCell (p := ⟨q, 3, none⟩) (fun _ => rfl) (.slice (some ⟨g3, 0, none⟩) 32 32)
  have hne : ∀ i (h : i < #[Value.slice none 0 0, .slice none 0 0, .slice none 0 0, .slice none 0 0].size) n, #[Value.slice none 0 0, .slice none 0 0, .slice none 0 0, .slice none 0 0][i] ≠ .int .i64 n := by
    intro i h n e
    have h4 : i < 4 := h
    rcases (show i = 0 ∨ i = 1 ∨ i = 2 ∨ i = 3 by omega) with rfl | rfl | rfl | rfl <;> cases e
  refine ⟨_, _, _, _, rfl, B3.out.apart tks FB4.out hne (fun _ e => e), B4.out.apart tks FB4.out hne (fun _ e => e), (T0.out.trans T4.out (fun _ _ e => e)).trans tks (fun b hb e => ?_)⟩
  omega
set_option maxRecDepth 100000 in
set_option maxHeartbeats 8000000 in
theorem newPast_any (data : ByteArray) (first : Int) (w : World) : Calls Try.prog 15 #[.string data, .int .i64 first] w fun e w' => ∃ p, e = .returned (.pointer (some ⟨p, 0, none⟩)) ∧ Touch (fun _ => False) w w' := by
  have hmm := @run_makeMap Try.prog
  go_enter Try.func15, Try.ntmps15
  go_wp2
  go_ret
  exact ⟨_, rfl, ((Touch.refl _ _).alloc _).alloc _⟩
end Go.Proofs.Ythengfclijclmaa
