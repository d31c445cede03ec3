/- Texts of this proof, one behind the other: what each says stands ahead of it. -/
import Derived.Test.YtmokfheckngfiaaDoorM1
import Derived.Maps.AppendAt
import Derived.OneCell
/- TapeNumbers' walk: any number that a field may hold is read of its digits and of its bytes; no condition. -/
namespace Go.Proofs.YtmokfheckngfiaaDoor
open Go.RowKit
open Go.Lib

theorem block_new (w : World) (cs : Array Value) (t : TypeId) : (w.alloc (.cells cs t)).heap[w.heap.size]? = some (.cells cs t (0, 0)) := by
  show (w.heap.push _)[_]? = _
  simp
theorem conv_litI (w : World) (l : List Int) (n : Nat) (hn : n = l.length) (cs : Array Value) (hcs : cs = (l.map (Value.int .u8)).toArray) : (convert 23 9 (.slice (some ⟨w.heap.size, 0, none⟩) n n)).run Tryd.prog (w.alloc (.cells cs 5)) = .ok (.string (strOfNums l)) (w.alloc (.cells cs 5)) := by
  subst hn hcs
  refine run_convert_bytes_arg _ 23 5 Tryd.underlying23 Tryd.underlying5 w.heap.size 0 l.length l.length l rfl (fun i hi => ?_) 9 Tryd.underlying9
  unfold World.cell?
  rw [block_new]
  simp [hi]
theorem wrap8 (r : Int) (h : 0 ≤ r ∧ r ≤ 255) : IntKind.u8.wrap r = r := by
  have : IntKind.u8.wrap r = r % 256 := by
    simp [IntKind.wrap, IntKind.bits, IntKind.signed]
  omega
theorem add_g (g j : Nat) : (⟨g, 0, none⟩ : Addr).add j = ⟨g, j, none⟩ := by
  unfold Addr.add
  split
  · rename_i h; rw [h]
  · rw [Nat.zero_add]


theorem row_new (w : World) (l : List Value) (t : TypeId) : ∀ (j : Nat) (u : Value), l[j]? = some u → (w.alloc (.cells l.toArray t)).cell? ((⟨w.heap.size, 0, none⟩ : Addr).add j) = some u := by
  intro j u hj
  have hb : (w.alloc (.cells l.toArray t)).heap[w.heap.size]? = some (.cells l.toArray t (0, 0)) := by
    show (w.heap.push _)[_]? = _
    simp
  rw [add_g]
  unfold World.cell?
  rw [hb]
  simpa using hj
def encB (e : List Int) : List Value := e.map (Value.int .u8)
/-- Numbers in a list of the call's own. -/
structure OwB (W0 wr : World) (v : Value) (e : List Int) : Prop where
  own : wr.ownsRow 0 5 1 v e.length (encB e)
  new : ∀ g, v.ownBlock = some g → W0.heap.size ≤ g
  touch : Touch (fun _ => False) W0 wr
theorem OwB.more {W0 wr w1 : World} {v v' : Value} {e : List Int} {x : Int} {o : Obj} (h : OwB W0 wr v e) (hown : w1.ownsRow 0 5 1 v' (e.length + 1) (encB e ++ [.int .u8 x])) (hg : (wr.alloc o).grownBy w1 v.ownBlock) (hat : v'.ownBlock = v.ownBlock ∨ v'.ownBlock = some (wr.heap.size + 1)) : OwB W0 w1 v' (e ++ [x]) := by
  refine ⟨?_, fun g hg' => ?_, (h.touch.alloc o).grown hg (fun k e hk => by have := h.new k e; omega)⟩
  · rw [List.length_append, encB, List.map_append]
    exact hown
  · rcases hat with e | e
    · exact h.new g (by rw [← e]; exact hg')
    · rw [e] at hg'
      simp at hg'
      have := h.touch.size
      omega
theorem OwB.one (w : World) (x : Int) : OwB w (w.alloc (.cells #[.int .u8 x] 5)) (.slice (some ⟨w.heap.size, 0, none⟩) 1 1) [x] := by
  refine ⟨?_, fun g hg => ?_, (Touch.refl _ w).alloc _⟩
  · exact ⟨rfl, .inr ⟨w.heap.size, 1, #[.int .u8 x], rfl, Nat.zero_le _, heap_alloc_new w _, Nat.le_refl _, by unfold maxLen; omega, rfl, rfl⟩⟩
  · simp [Value.ownBlock] at hg
    omega


theorem OwB.still {W0 wr w' : World} {v : Value} {e : List Int} (h : OwB W0 wr v e) (tc : Touch (fun _ => False) wr w') : OwB W0 w' v e := by
  refine ⟨⟨h.own.1, ?_⟩, h.new, h.touch.trans tc (fun _ _ e => e)⟩
  rcases h.own.2 with h0 | ⟨g, cap, cur, hv, hg, hh, rest⟩
  · exact .inl h0
  · exact .inr ⟨g, cap, cur, hv, hg, (tc.block g (lt_of_block hh) id).trans hh, rest⟩
theorem info5i : (Tryd.prog.info? 5).map (fun i => (i.zero, i.size, i.bytes)) = some (some (.int .u8 0), 1, 1) := by kernel_rfl
theorem conv_own {w : World} {v : Value} {o : List Int} (h : w.ownsRow 0 5 1 v o.length (encB o)) : (convert 23 9 v).run Tryd.prog w = .ok (.string (strOfNums o)) w := by
  rcases h.2 with ⟨rfl, h0⟩ | ⟨g, cap, cur, rfl, hg, hh, rest⟩
  · obtain rfl := List.eq_nil_of_length_eq_zero h0
    rw [run_convert_bytes_string w 23 9 5 _ _ _ Tryd.underlying23 Tryd.underlying5 Tryd.underlying9]
    simp [Conv.bytesToString, strOfNums]
    rfl
  · refine run_convert_bytes_arg w 23 5 Tryd.underlying23 Tryd.underlying5 g 0 o.length cap o rfl (fun i hi => ?_) 9 Tryd.underlying9
    have := h.cells (g := g) rfl i (.int .u8 (o.getD i 0)) (by simp [encB, hi])
    rw [add_g] at this
    rwa [Nat.zero_add]
/-- So many of a number's bytes, the highest first. -/
def wl (n : Nat) (j : Nat) : List Int := (List.range j).map fun t => ((n / 256 ^ (5 - t) % 256 : Nat) : Int)
theorem wl_succ (n j : Nat) : wl n (j + 1) = wl n j ++ [((n / 256 ^ (5 - j) % 256 : Nat) : Int)] := by
  unfold wl
  rw [List.range_succ, List.map_append]
  rfl
theorem wl_len (n j : Nat) : (wl n j).length = j := by unfold wl; simp
theorem wl_byts (n : Nat) : byts (wl n 6) := fun d hd => by
  unfold wl at hd
  rw [List.mem_map] at hd
  obtain ⟨t, _, rfl⟩ := hd
  omega
theorem wl_fold (n : Nat) (h : n ≤ 1099511627776) : (wl n 6).foldl of256 0 = (n : Int) := by
  show of256 (of256 (of256 (of256 (of256 (of256 0 ((n / 256 ^ 5 % 256 : Nat) : Int)) ((n / 256 ^ 4 % 256 : Nat) : Int)) ((n / 256 ^ 3 % 256 : Nat) : Int)) ((n / 256 ^ 2 % 256 : Nat) : Int)) ((n / 256 ^ 1 % 256 : Nat) : Int)) ((n / 256 ^ 0 % 256 : Nat) : Int) = _
  unfold of256
  omega
theorem field_len (k : Nat) (l : List Int) : (fieldL k l).length = 2 * k + l.length := by
  unfold fieldL
  simp
  omega
theorem field_first (k : Nat) (l : List Int) (h : dig l) (hs : 0 < (strOfNums (fieldL k l ++ [32])).size) : (strOfNums (fieldL k l ++ [32]))[0].toNat < 128 := by
  have hin : ∀ b ∈ fieldL k l ++ [32], 0 ≤ b ∧ b ≤ 127 := fun b hb => by
    unfold fieldL at hb
    simp only [List.mem_append, List.mem_replicate, List.mem_singleton] at hb
    rcases hb with ((⟨_, rfl⟩ | hb) | ⟨_, rfl⟩) | rfl
    · omega
    · have := h b hb; omega
    · omega
    · omega
  have h0 : 0 < (fieldL k l ++ [32]).length := by rw [List.length_append]; simp
  have e := at_str (fieldL k l ++ [32]) (fun b hb => by have := hin b hb; omega) 0 hs h0
  have := hin _ (List.getElem_mem h0)
  omega
theorem pow8 (m j : Nat) (h : m < 8 ^ (j + 1)) : m / 8 < 8 ^ j := by
  rw [Nat.pow_succ] at h
  omega
set_option maxRecDepth 100000 in
set_option maxHeartbeats 8000000 in
theorem tapeNumbers_walk (n0 k0 : Int) (w : World) : Calls Tryd.prog 3 #[.int .i64 n0, .int .i64 k0] w fun e w' => e = .returned (.bool true) ∧ Touch (fun _ => False) w w' := by
  go_enter Tryd.func3, Tryd.ntmps3
  go_wp2_with fail
  refine (speaks_yes w).mono ?_
  rintro e w1 ⟨rfl, t1⟩
  have T1 := hid t1
  clear t1
  go_upto_region 3 with fail
  go_cut [21] (fun v wd => w1 = wd ∧ ∃ bv : Bool, v = .bool bv ∧ (bv = true ∨ (bv = false ∧ (0 ≤ n0 ∧ n0 ≤ 1099511627776))))
  case first =>
    by_cases h0 : n0 < 0
    · go_wp2
      go_meet
      case rel => exact ⟨rfl, true, rfl, .inl rfl⟩
    · by_cases h1 : 1099511627776 < n0
      · go_wp2
        go_meet
        case rel => exact ⟨rfl, true, rfl, .inl rfl⟩
      · have HB := hid (show 0 ≤ n0 ∧ n0 ≤ 1099511627776 by omega)
        go_wp2
        go_meet
        case rel => exact ⟨rfl, false, rfl, .inr ⟨rfl, HB.out⟩⟩
  obtain ⟨rfl, bv, rfl, hv⟩ := hcut
  have HV := hid hv
  clear hv
  go_upto_if 21 with fail
  go_cut [0] (fun v wd => w1 = wd ∧ ∃ m : Nat, v = .int .i64 (m : Nat) ∧ m ≤ 1099511627776)
  case first =>
    rcases HV.out with rfl | ⟨rfl, hb⟩
    · clear HV
      go_wp2
      go_meet
      case rel => exact ⟨rfl, 12345, rfl, by omega⟩
    · clear HV
      obtain ⟨m, rfl⟩ := Int.eq_ofNat_of_zero_le hb.1
      have HB := hid (show m ≤ 1099511627776 by omega)
      go_wp2
      go_meet
      case rel => exact ⟨rfl, m, rfl, HB.out⟩
  obtain ⟨rfl, n, rfl, hn⟩ := hcut
  clear HV
  have HN := hid hn
  have T0 := hid (Touch.refl (fun _ => False) w1)
  go_wp2_with fail
  go_loopg [5, 6] 14 (fun gk v5 v6 wq => ∃ (L : List Int) (m : Nat), L.length + gk = 14 ∧ v5 = .string (strOfNums L) ∧ v6 = .int .i64 (m : Nat) ∧ dig L ∧ L.foldl of8 (m : Int) = (n : Int) ∧ m < 8 ^ gk ∧ m ≤ 1099511627776 ∧ Touch (fun _ => False) w1 wq)
  case atStart => exact ⟨[], n, rfl, rfl, rfl, fun d hd => by simp at hd, rfl, by omega, HN.out, T0.out⟩
  case round =>
    obtain ⟨L, m, hlen, rfl, rfl, hdg, hfold, hpow, hm, htc⟩ := hrel
    have TC := hid htc
    have HDG := hid hdg
    have HF := hid hfold
    have HP := hid hpow
    clear htc hdg hfold hpow
    have hsz := str_size L
    by_cases hm0 : 0 < m
    · obtain ⟨gk, rfl⟩ : ∃ j, gk = j + 1 := ⟨gk - 1, by
        cases gk with
        | zero => have := HP.out; simp at this; omega
        | succ j => omega⟩
      have hmI : (0 : Int) < (m : Int) := by omega
      have hmn : (0 : Int) ≤ (m : Int) := by omega
      have hcv := conv_litI wr [48 + (m : Int) % 8] 1 rfl #[.int .u8 (48 + (m : Int) % 8)] rfl
      have hw := wrap8 (48 + (m : Int) % 8) (by omega)
      have hs1 := str_size [48 + (m : Int) % 8]
      have HAPP := hid (str_app [48 + (m : Int) % 8] L)
      have HNEW := hid (show dig ([48 + (m : Int) % 8] ++ L) ∧ ([48 + (m : Int) % 8] ++ L).foldl of8 ((m / 8 : Nat) : Int) = (n : Int) from ⟨fun d hd => by
        rcases List.mem_append.1 hd with h | h
        · rw [List.mem_singleton] at h
          omega
        · exact HDG.out d h, by
        rw [List.foldl_append, ← HF.out]
        congr 1
        show of8 ((m / 8 : Nat) : Int) (48 + (m : Int) % 8) = (m : Int)
        unfold of8
        omega⟩)
      have HLN := hid (show ([48 + (m : Int) % 8] ++ L).length + gk = 14 by rw [List.length_append, List.length_singleton]; omega)
      obtain ⟨X, hX⟩ : ∃ X, X = [48 + (m : Int) % 8] ++ L := ⟨_, rfl⟩
      rw [← hX] at HAPP HNEW HLN
      generalize strOfNums [48 + (m : Int) % 8] = s1 at *
      generalize strOfNums L = s2 at *
      have HS1 := hid hs1
      simp only [List.length_singleton] at hs1
      clear hX HS1
      go_wp2
      go_roundg gk
      case measure => omega
      case rel => exact ⟨X, m / 8, HLN.out, by rw [← HAPP.out], by first | rfl | go_num, HNEW.out.1, HNEW.out.2, pow8 m gk HP.out, by omega, TC.out.alloc _⟩
    · obtain rfl : m = 0 := by omega
      have HF0 := hid (show L.foldl of8 0 = (n : Int) from HF.out)
      obtain ⟨K, hK⟩ := Int.eq_ofNat_of_zero_le (show 0 ≤ k0 % 8 by omega)
      have hK7 : K ≤ 7 := by omega
      have hand : bits .and .i64 k0 7 = (K : Int) := by rw [i64_and7, hK]
      have HSF := hid (show strOfNums L = strOfNums (fieldL 0 L) by unfold fieldL; simp)
      clear hK HF HP
      go_wp2_with fail
      go_loopg [5, 7] K (fun gk v5 v7 wq => ∃ i : Nat, i + gk = K ∧ v7 = .int .i64 (i : Nat) ∧ v5 = .string (strOfNums (fieldL i L)) ∧ wr = wq)
      case atStart => exact ⟨0, by omega, rfl, by rw [HSF.out], rfl⟩
      case round =>
        obtain ⟨i, hi, rfl, rfl, rfl⟩ := hrel
        have hsf := str_size (fieldL i L)
        rw [field_len] at hsf
        by_cases hlt : i < K
        · obtain ⟨gk, rfl⟩ : ∃ j, gk = j + 1 := ⟨gk - 1, by omega⟩
          have hltI : (i : Int) < (K : Int) := by omega
          have HAP := hid (show (⟨#[32]⟩ : ByteArray) ++ strOfNums (fieldL i L) ++ (⟨#[0]⟩ : ByteArray) = strOfNums (fieldL (i + 1) L) by
            rw [show (⟨#[32]⟩ : ByteArray) = strOfNums [32] from rfl, show (⟨#[0]⟩ : ByteArray) = strOfNums [0] from rfl, str_app, str_app, field_succ])
          generalize strOfNums (fieldL i L) = sf at *
          go_wp2
          go_roundg gk
          case measure => omega
          case rel => exact ⟨i + 1, by omega, by go_num, by rw [← HAP.out], rfl⟩
        · have hltI : ¬ ((i : Int) < (K : Int)) := by omega
          have H32 := hid (show strOfNums (fieldL i L) ++ (⟨#[32]⟩ : ByteArray) = strOfNums (fieldL i L ++ [32]) by
            rw [show (⟨#[32]⟩ : ByteArray) = strOfNums [32] from rfl, str_app])
          have hs32 := str_size (fieldL i L ++ [32])
          rw [List.length_append, field_len, List.length_singleton] at hs32
          have KO := hid (fun w => number_octal (strOfNums (fieldL i L ++ [32])) L (n : Int) (by omega) (field_first i L HDG.out (by omega)) (trim_field i L HDG.out) HDG.out HF0.out (by have := HN.out; omega) (by omega) (by omega) w)
          have KW := hid (fun w => number_wide (wl n 6) (n : Int) (wl_byts n) (wl_fold n HN.out) (by have := HN.out; omega) (by rw [wl_len]; omega) w)
          rw [← H32.out] at KO
          generalize strOfNums (fieldL i L) = sf at *
          have O1 := hid (OwB.one wr 128)
          obtain ⟨wr0, hwr0⟩ : ∃ x, x = wr := ⟨_, rfl⟩
          rw [← hwr0] at O1 ⊢
          have TC0 := hid (show Touch (fun _ => False) w1 wr0 by rw [hwr0]; exact TC.out)
          clear hwr0
          clear hs32 H32 HSF
          go_wp2_with fail
          go_loopg [8, 9] 6 (fun gk v8 v9 wq => ∃ j : Nat, j + gk = 6 ∧ v9 = .int .i64 (5 - (j : Int)) ∧ OwB wr0 wq v8 (128 :: wl n j))
          case atStart => exact ⟨0, rfl, rfl, O1.out⟩
          case round =>
            obtain ⟨j, hj, rfl, how⟩ := hrel
            have O := hid how
            obtain ⟨av, kv, hv⟩ := own_shape how.own
            have hwl : (128 :: wl n j).length = j + 1 := by rw [List.length_cons, wl_len]
            rw [hwl] at hv
            subst hv
            have OW := hid how.own
            rw [hwl] at OW
            have HWL := hid hwl
            clear how O1 hwl
            by_cases hj6 : j < 6
            · obtain ⟨gk, rfl⟩ : ∃ g, gk = g + 1 := ⟨gk - 1, by omega⟩
              obtain ⟨i0, hi5, hz0, hz1, hz2⟩ := info_parts info5i
              have hj5 : (j : Int) ≤ 5 := by omega
              have HX := hid (show (n : Int) / 2 ^ (8 * (5 - j)) % 256 = ((n / 256 ^ (5 - j) % 256 : Nat) : Int) by
                rw [Int.natCast_emod, Int.natCast_ediv, show (256 : Nat) ^ (5 - j) = 2 ^ (8 * (5 - j)) by rw [Nat.pow_mul], Int.natCast_pow]
                rfl)
              generalize hxx : (n : Int) / 2 ^ (8 * (5 - j)) % 256 = x at *
              have HXX := hid hxx
              go_wp2_with (at_builtin; (refine wpList_append_own_at _ rfl _ _ 23 rfl 0 5 i0 (.int .u8 0) 1 1 Tryd.underlying23 hi5 hz0 hz1 hz2 rfl (by decide) _ _ _ rfl (OW.out.alloc _) ⟨wr.heap.size, 0, none⟩ 1 1 [.int .u8 x] rfl rfl (row_new wr [.int .u8 x] 5) (by intro u hu; simp at hu; subst hu; rfl) (by unfold maxLen; omega) (by omega) (Nat.zero_le _) ?_))
              intro v' w' hown hgrow hne hat
              have O2 := hid (show OwB wr0 w' v' (128 :: wl n (j + 1)) from by
                have h := O.out.more (x := x) (by rw [HWL.out]; exact hown) hgrow hat
                rw [HX.out] at h
                rw [wl_succ]
                exact h)
              clear hown hgrow hat hne OW O
              go_wp2
              go_roundg gk
              case measure => omega
              case rel => exact ⟨j + 1, by omega, by go_num, O2.out⟩
            · obtain rfl : j = 6 := by omega
              have hj5 : ¬ ((6 : Int) ≤ 5) := by omega
              have hs5 : sf.size ≤ 100 := by omega
              clear OW
              go_wp2_with fail
              refine (KO.out _).mono ?_
              rintro e w5 ⟨rfl, t5⟩
              have O5 := hid (O.out.still t5)
              have hcv : (convert 23 9 (.slice av 7 kv)).run Tryd.prog w5 = .ok (.string (strOfNums (128 :: wl n 6))) w5 := conv_own O5.out.own
              have T3 := hid (TC0.out.trans O5.out.touch (fun _ _ e => e))
              generalize strOfNums (128 :: wl n 6) = sw at *
              clear t5 KO O
              go_wp2_with fail
              refine (KW.out _).mono ?_
              rintro e w6 ⟨rfl, t6⟩
              have T6 := hid (T1.out.trans (T3.out.trans t6 (fun _ _ e => e)) (fun _ _ e => e))
              clear t6 KW T3
              go_wp2
              go_ret
              exact ⟨rfl, T6.out⟩
end Go.Proofs.YtmokfheckngfiaaDoor
