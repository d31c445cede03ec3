/- InflateStored: any bytes, laid out as they are in any blocks by hand, are unpacked; for every input. -/
import Derived.Test.YtokelpnmeknncabS3
import Derived.Test.YtokelpnmeknncabIb
import Derived.Test.YtokelpnmeknncabUo
import Derived.Test.YtokelpnmeknncabRows
import Derived.WalkKit
import Derived.ProofKit
import Derived.OpenShut
import Derived.ShutString
import Derived.ChangeOld
import Derived.Below
import Derived.SizedLaws
import Derived.Deep.Strs
import Derived.Deep.DeepCutAuto
import Derived.Deep.CutRange
import Derived.Deep.LoopGhost
namespace Go.Proofs.Ytokelpnmeknncab
open Go.ChangeShapes Go.WideShapes Go.ChangeAt Go.RowKit Go.Lib
open Go.ChangeMaps (open_string shut_string)

/-- A list of strings that came in. -/
def SRow (w : World) (a : Option Addr) (len : Nat) (S : Nat → ByteArray) : Prop :=
  len = 0 ∨ ∃ b o, a = some ⟨b, o, none⟩ ∧ b < w.heap.size ∧ ∀ i, i < len → w.cell? ⟨b, o + i, none⟩ = some (.string (S i))

theorem srow_of {w : World} {x : Addr} {len : Nat} {S : Nat → ByteArray} (hc : ∀ i, i < len → w.cell? (x.add i) = some (.string (S i))) : SRow w (some x) len S := by
  by_cases h0 : len = 0
  · exact .inl h0
  · obtain ⟨b, off, spot⟩ := x
    have hspot : spot = none := by simpa [Addr.add] using World.cell?_spot (hc 0 (by omega))
    subst hspot
    have hb := World.block_lt_of_cell? w _ (hc 0 (by omega))
    refine .inr ⟨b, off, rfl, by simpa [Addr.add] using hb, fun i hi => ?_⟩
    have := hc i hi
    rwa [show (⟨b, off, none⟩ : Addr).add i = ⟨b, off + i, none⟩ by unfold Addr.add; split <;> simp_all] at this

theorem own : ownKnob Try.prog.godebug = none := by kernel_rfl
theorem laidOut : laidOutB Try.prog = true := by kernel_rfl

theorem strOf_nats (s : ByteArray) : strOf (Bt.strNats s) = s := by
  apply ByteArray.ext
  unfold strOf Bt.strNats
  apply Array.ext
  · simp
  · intro i h1 h2
    have hi : i < s.size := h2
    simp only [List.map_map, List.getElem_toArray, List.getElem_map, List.getElem_range, Function.comp_def]
    rw [← byte_get s i hi]
    simp
    rfl
theorem strOf_append (l r : List Nat) : strOf l ++ strOf r = strOf (l ++ r) := by
  apply ByteArray.ext
  simp [strOf]

theorem small_nats {S : Nat → ByteArray} {m : Nat} (h : ∀ j, j < m → (S j).size ≤ 65535) : Small (fun j => Bt.strNats (S j)) m := by
  intro j hj
  refine ⟨by simp [Bt.strNats]; exact h j hj, fun x hx => ?_⟩
  simp only [Bt.strNats, List.mem_map] at hx
  obtain ⟨i, _, rfl⟩ := hx
  exact Bt.byteN_lt _ _

/-- The loop's state: so many texts are laid out. -/
structure Ls (W0 wr : World) (S : Nat → ByteArray) (m k : Nat) (v : Value) : Prop where
  own : wr.ownsRow 0 5 1 v (laidTo (fun j => Bt.strNats (S j)) m k).length (bytesV (laidTo (fun j => Bt.strNats (S j)) m k))
  touch : Touch (fun _ => False) W0 wr
  new : ∀ g, v.ownBlock = some g → W0.heap.size ≤ g
  size : ∀ j, j < k → (S j).size ≤ 65535

theorem row_new (w : World) (l : List Value) (t : TypeId) : ∀ (j : Nat) (u : Value), l[j]? = some u → (w.alloc (.cells l.toArray t)).cell? ((⟨w.heap.size, 0, none⟩ : Addr).add j) = some u := by
  intro j u hj
  have hb : (w.alloc (.cells l.toArray t)).heap[w.heap.size]? = some (.cells l.toArray t (0, 0)) := by
    show (w.heap.push _)[_]? = _
    simp
  rw [add_zero]
  unfold World.cell?
  rw [hb]
  simpa using hj

theorem u8_flip (y : Nat) (h : y < 256) : bits BinOp.xor IntKind.u8 (if IntKind.u8.signed = true then -1 else IntKind.u8.max) (y : Int) = ((255 - y : Nat) : Int) := by
  have hall : ∀ y : Fin 256, bits BinOp.xor IntKind.u8 (if IntKind.u8.signed = true then -1 else IntKind.u8.max) ((y.val : Nat) : Int) = ((255 - y.val : Nat) : Int) := by decide +kernel
  exact hall ⟨y, h⟩

theorem own_slice {w : World} {v : Value} {out : List Nat} (h : w.ownsRow 0 5 1 v out.length (bytesV out)) : ∃ a c, v = .slice a out.length c := by
  rcases h.2 with ⟨rfl, h0⟩ | ⟨g, cap, cur, rfl, _⟩
  · exact ⟨none, 0, by rw [h0]⟩
  · exact ⟨_, cap, rfl⟩

theorem conv_own {w : World} {v : Value} {out : List Nat} (h : w.ownsRow 0 5 1 v out.length (bytesV out)) (hb : ∀ x ∈ out, x < 256) (w' : World) (hw : w'.heap = w.heap) : (convert 28 9 v).run Try.prog w' = .ok (.string (strOf out)) w' := by
  have hown : w'.ownsRow 0 5 1 v out.length (bytesV out) := by
    refine ⟨h.1, ?_⟩
    rcases h.2 with h0 | ⟨g, cap, cur, hv, hg, hh, rest⟩
    · exact .inl h0
    · exact .inr ⟨g, cap, cur, hv, hg, by rw [hw]; exact hh, rest⟩
  rcases hown.2 with ⟨rfl, hz⟩ | ⟨g, cap, cur, rfl, _, hh, hle, _⟩
  · have hcv := run_convert_bytes_nil (P := Try.prog) w' 28 5 Try.underlying28 Try.underlying5 0 0 9 Try.underlying9
    have e : strOf out = ByteArray.empty := by
      rw [List.eq_nil_of_length_eq_zero (l := out) hz]
      rfl
    rw [e]
    exact hcv
  · have hc : ∀ j (hj : j < (out.map UInt8.ofNat).length), w'.cell? ((⟨g, 0, none⟩ : Addr).add j) = some (.int .u8 (((out.map UInt8.ofNat)[j]).toNat : Int)) := by
      intro j hj
      simp only [List.length_map] at hj
      refine hown.cells rfl j _ ?_
      have hlt := hb _ (List.getElem_mem hj)
      simp only [bytesV, List.getElem?_map, List.getElem?_eq_getElem hj, Option.map_some, List.getElem_map]
      rw [UInt8.toNat_ofNat_of_lt' (by simpa using hlt)]
    have hcv := run_convert_bytes_back (P := Try.prog) w' 28 9 5 ⟨g, 0, none⟩ cap (out.map UInt8.ofNat) Try.underlying28 Try.underlying5 Try.underlying9 hc
    rw [List.length_map] at hcv
    exact hcv

theorem extract_whole (s : ByteArray) : s.extract 0 s.size = s := by
  apply ByteArray.ext
  rw [ByteArray.data_extract]
  exact Array.extract_size

theorem len_laid (T : Nat → List Nat) (m m' : Nat) : ∀ k, (laidTo T m k).length = (laidTo T m' k).length
  | 0 => rfl
  | k + 1 => by rw [laidTo_succ, laidTo_succ, List.length_append, List.length_append, len_laid T m m' k, length_blk, length_blk]

/-- The five bytes ahead of a block. -/
def heads (lb n : Nat) : List Value := [.int .u8 (lb : Nat), .int .u8 ((n : Int) % 256), .int .u8 ((n : Int) / 256), .int .u8 (bits BinOp.xor IntKind.u8 (if IntKind.u8.signed = true then -1 else IntKind.u8.max) ((n : Int) % 256)),
  .int .u8 (bits BinOp.xor IntKind.u8 (if IntKind.u8.signed = true then -1 else IntKind.u8.max) ((n : Int) / 256))]

theorem heads_eq (lb : Nat) (x : ByteArray) (h : x.size ≤ 65535) : heads lb x.size ++ strCells x = bytesV (blk lb (Bt.strNats x)) := by
  have e1 : ((x.size : Int) % 256) = ((x.size % 256 : Nat) : Int) := by omega
  have e2 : ((x.size : Int) / 256) = ((x.size / 256 : Nat) : Int) := by omega
  have hl : (Bt.strNats x).length = x.size := by simp [Bt.strNats]
  rw [strCells_eq]
  unfold heads
  rw [e1, e2, u8_flip _ (by omega), u8_flip _ (by omega)]
  unfold blk bytesV
  rw [List.map_append, hl]
  rfl

theorem Ls.more {W0 wr w2 w3 : World} {S : Nat → ByteArray} {m k : Nat} {v v2 v3 : Value} {x : ByteArray} (h : Ls W0 wr S m k v) (hx : x = S k) (hs : x.size ≤ 65535)
    (g2 : (wr.alloc (.cells (heads (lastOf m k) x.size).toArray 5)).grownBy w2 v.ownBlock) (p2 : v2.ownBlock = v.ownBlock ∨ v2.ownBlock = some (wr.heap.size + 1))
    (o3 : w3.ownsRow 0 5 1 v3 ((laidTo (fun j => Bt.strNats (S j)) m k).length + 5 + x.size) (bytesV (laidTo (fun j => Bt.strNats (S j)) m k) ++ (heads (lastOf m k) x.size ++ strCells x)))
    (g3 : w2.grownBy w3 v2.ownBlock) (p3 : v3.ownBlock = v2.ownBlock ∨ ∃ g, v3.ownBlock = some g ∧ w2.heap.size ≤ g) : Ls W0 w3 S m (k + 1) v3 := by
  have t1 : Touch (fun _ => False) W0 (wr.alloc (.cells (heads (lastOf m k) x.size).toArray 5)) := h.touch.alloc _
  have n2 : ∀ g, v2.ownBlock = some g → W0.heap.size ≤ g := by
    intro g hg
    rcases p2 with e | e
    · exact h.new g (by rw [← e]; exact hg)
    · rw [e] at hg
      simp at hg
      have := h.touch.size
      omega
  have t2 : Touch (fun _ => False) W0 w2 := t1.grown g2 (fun g e hg => by have := h.new g e; omega)
  refine ⟨?_, t2.grown g3 (fun g e hg => by have := n2 g e; omega), fun g hg => ?_, fun j hj => ?_⟩
  · rw [laidTo_succ]
    have e : (laidTo (fun j => Bt.strNats (S j)) m k ++ blk (lastOf m k) (Bt.strNats (S k))).length = (laidTo (fun j => Bt.strNats (S j)) m k).length + 5 + x.size := by
      rw [List.length_append, length_blk, hx]
      simp [Bt.strNats]
      omega
    rw [e]
    rw [heads_eq _ _ hs, hx] at o3
    have e2 : bytesV (laidTo (fun j => Bt.strNats (S j)) m k ++ blk (lastOf m k) (Bt.strNats (S k))) = bytesV (laidTo (fun j => Bt.strNats (S j)) m k) ++ bytesV (blk (lastOf m k) (Bt.strNats (S k))) := by simp [bytesV]
    rw [e2, hx]
    exact o3
  · rcases p3 with e | ⟨g', e, hg'⟩
    · exact n2 g (by rw [← e]; exact hg)
    · rw [e] at hg
      simp at hg
      have := t2.size
      omega
  · rcases Nat.lt_or_ge j k with h1 | h1
    · exact h.size j h1
    · obtain rfl : j = k := by omega
      rw [← hx]
      exact hs

set_option maxRecDepth 100000 in
set_option maxHeartbeats 4000000 in
theorem inflateStored_walk (a : Option Addr) (len cap : Nat) (S : Nat → ByteArray) (w : World) (hlen : len ≤ 140737488351232) (hrow : SRow w a len S) :
    Calls Try.prog 7 #[.slice a len cap] w fun e w' => e = .returned (.bool true) ∧ Below w.heap.size w w' := by
  have HROW := hid hrow
  clear hrow
  go_enter Try.func7, Try.ntmps7
  go_wp2_with fail
  refine (speaks3_yes w).mono ?_
  rintro e w1 ⟨rfl, ht⟩
  have T1 := hid ht
  clear ht
  obtain ⟨m, hm⟩ : ∃ m, m = min len 50 := ⟨_, rfl⟩
  have HM := hid hm
  have hm1 : m ≤ 50 := by omega
  have hm2 : m ≤ len := by omega
  clear hm
  go_wp2_with fail
  go_loopg [3, 4, 5] 51 (fun g b s i wr => ∃ k : Nat, k ≤ m ∧ k + g = 51 ∧ i = .int .i64 (k : Nat) ∧ s = .string (strOf (wantTo (fun j => Bt.strNats (S j)) k)) ∧ Ls w1 wr S m k b)
  case atStart => exact ⟨0, Nat.zero_le _, rfl, rfl, rfl, ⟨by simpa [laidTo, bytesV] using World.ownsRow_nil _ _ _ _, Touch.refl _ _, by intro g h; simp [Value.ownBlock] at h, by omega⟩⟩
  case round =>
    obtain ⟨k, hkm, hkg, rfl, rfl, hls⟩ := hrel
    have LS := hid hls
    clear hls
    by_cases hlt : k < m
    · obtain ⟨b0, o0, ha, hb0, hcell⟩ : ∃ b o, a = some ⟨b, o, none⟩ ∧ b < w.heap.size ∧ ∀ i, i < len → w.cell? ⟨b, o + i, none⟩ = some (.string (S i)) := by
        rcases HROW.out with h | h
        · omega
        · exact h
      have c0 : wr.cell? ⟨b0, o0 + k, none⟩ = some (.string (S k)) := by
        rw [LS.out.touch.cell (p := ⟨b0, o0 + k, none⟩) (Nat.lt_of_lt_of_le hb0 T1.out.size) (fun h => h), T1.out.cell (p := ⟨b0, o0 + k, none⟩) hb0 (fun h => h)]
        exact hcell k (by omega)
      subst ha
      clear hcell
      have hk50 : k < 50 := by omega
      have hkl : k < len := by omega
      generalize hW : strOf (wantTo (fun j => Bt.strNats (S j)) k) = W at *
      have HW := hid hW
      clear hW
      obtain ⟨x, hx⟩ : ∃ x, x = S k := ⟨_, rfl⟩
      rw [← hx] at c0
      have HX := hid hx
      clear hx
      by_cases hbig : 65535 < x.size
      · go_wp2
        go_ret
        exact ⟨rfl, (T1.out.trans LS.out.touch (fun _ _ e => e)).below _ (Nat.le_refl _) (fun _ e => e.elim)⟩
      · go_upto_region 12 with fail
        go_cut [39] (fun c wc => c = .bool (decide (k + 1 = m)) ∧ wr = wc)
        case first =>
          by_cases q1 : k + 1 = len
          · have e1 : ((k : Int) == (len : Int) - 1) = true := by simp; omega
            have Q1 := hid q1
            clear q1
            go_wp2
            go_meet
            case rel => exact ⟨congrArg Value.bool (decide_eq_true (by have := HM.out; have := Q1.out; omega)).symm, rfl⟩
          · have e1 : ((k : Int) == (len : Int) - 1) = false := by simp; omega
            by_cases q2 : k = 49
            · have e2 : ((k : Int) == 49) = true := by simp; omega
              have Q2 := hid q2
              clear q2
              go_wp2
              go_meet
              case rel => exact ⟨congrArg Value.bool (decide_eq_true (by have := HM.out; have := Q2.out; omega)).symm, rfl⟩
            · have e2 : ((k : Int) == 49) = false := by simp; omega
              have Q1 := hid q1
              have Q2 := hid q2
              clear q1 q2
              go_wp2
              go_meet
              case rel => exact ⟨congrArg Value.bool (decide_eq_false (by have := HM.out; have := Q1.out; have := Q2.out; omega)).symm, rfl⟩
        obtain ⟨rfl, rfl⟩ := hcut
        go_upto_if 39 with fail
        go_cut [7] (fun c wc => c = .int .u8 (lastOf m k : Nat) ∧ wr = wc)
        case first =>
          by_cases q1 : k + 1 = m
          · have e1 : decide (k + 1 = m) = true := decide_eq_true q1
            have Q1 := hid q1
            clear q1
            rw [e1]
            go_wp2
            go_meet
            case rel => exact ⟨by rw [show lastOf m k = 1 from if_pos Q1.out]; rfl, rfl⟩
          · have e1 : decide (k + 1 = m) = false := decide_eq_false q1
            have Q1 := hid q1
            clear q1
            rw [e1]
            go_wp2
            go_meet
            case rel => exact ⟨by rw [show lastOf m k = 0 from if_neg Q1.out]; rfl, rfl⟩
        obtain ⟨rfl, rfl⟩ := hcut
        obtain ⟨i0, hin, hz0, hz1, hz2⟩ := info_parts Try.info5
        have hlen2 := (laid_small _ _ (small_nats (S := S) (m := k) LS.out.size) k (Nat.le_refl _)).2.1
        have hlen3 : (laidTo (fun j => Bt.strNats (S j)) m k).length = (laidTo (fun j => Bt.strNats (S j)) k k).length := len_laid _ _ _ _
        rw [← hlen3] at hlen2
        clear hlen3
        go_wp2_with (at_builtin; refine wpList_append_own_at _ rfl _ _ 28 rfl 0 5 i0 (.int .u8 0) 1 1 Try.underlying28 hin hz0 hz1 hz2 rfl (by decide) _ _ _ rfl (LS.out.own.alloc _) ⟨wr.heap.size, 0, none⟩ 5 5 (heads (lastOf m k) x.size) rfl rfl (row_new wr (heads (lastOf m k) x.size) 5) (by intro u hu; simp [heads] at hu; rcases hu with rfl | rfl | rfl | rfl | rfl <;> rfl) (by unfold maxLen; omega) (by omega) (Nat.zero_le _) ?_)
        intro v2 w2 o2 g2 _ p2
        have G2 := hid g2
        have P2 := hid p2
        have O2 := hid o2
        clear g2 p2 o2
        go_wp2_with (at_builtin; refine wpList_append_string_at _ rfl _ _ 28 9 rfl 5 i0 Try.underlying28 Try.underlying9 hin hz0 hz1 hz2 _ _ _ rfl O2.out x rfl (by unfold maxLen; omega) (by omega) ?_)
        intro v3 w3 o3 g3 p3
        have LS3 := hid (LS.out.more HX.out (by omega) G2.out P2.out o3 g3 p3)
        clear o3 g3 p3
        have hws : W ++ x = strOf (wantTo (fun j => Bt.strNats (S j)) (k + 1)) := by
          rw [wantTo_succ, ← strOf_append, HW.out, strOf_nats, HX.out]
        have HWS := hid hws
        clear hws
        have hWs : W.size ≤ 65535 * k := by
          have := (laid_small _ _ (small_nats (S := S) (m := k) LS.out.size) k (Nat.le_refl _)).2.2.2
          rw [← HW.out, size_strOf]
          exact this
        go_wp2
        go_roundg (gk - 1)
        case measure => omega
        case rel => exact ⟨k + 1, by omega, by omega, by go_num, by rw [← HWS.out], LS3.out⟩
    · obtain rfl : k = m := by omega
      have hsm := small_nats (S := S) (m := k) LS.out.size
      have hls := laid_small _ _ hsm k (Nat.le_refl _)
      obtain ⟨SS, hSS⟩ : ∃ SS, SS = strOf (laidTo (fun j => Bt.strNats (S j)) k k) := ⟨_, rfl⟩
      have hconv := conv_own LS.out.own hls.1
      rw [← hSS] at hconv
      have HCV := hid hconv
      obtain ⟨av, cv, hav⟩ := own_slice LS.out.own
      subst hav
      have hcv0 := HCV.out wr rfl
      have hcv1 := HCV.out wr.drew rfl
      clear hconv
      generalize hWW : strOf (wantTo (fun j => Bt.strNats (S j)) k) = WW
      have HWW := hid hWW
      clear hWW
      obtain ⟨N, hN⟩ : ∃ N, N = (laidTo (fun j => Bt.strNats (S j)) k k).length := ⟨_, rfl⟩
      rw [← hN] at hcv0 hcv1 ⊢
      have hSz : SS.size = N := by rw [hSS, size_strOf, hN]
      have hWz : WW.size = (wantTo (fun j => Bt.strNats (S j)) k).length := by rw [← HWW.out, size_strOf]
      have hb1 : N ≤ 65540 * k := by rw [hN]; exact hls.2.1
      have hb2 : WW.size ≤ 65535 * k := by rw [hWz]; exact hls.2.2.2
      have HN := hid hN
      have HSS := hid hSS
      have HSZ := hid hSz
      have HWZ := hid hWz
      clear hN hSS hls hWz
      rcases Nat.eq_zero_or_pos k with hk0 | hk0
      · have hl0 : len = 0 := by have := HM.out; omega
        have hlb : ((len : Int) == 0) = true := by simp; omega
        have hnl : ¬ k < len := by omega
        have hS0 : SS.size = 0 := by omega
        have US := hid (Unpack_of (fun err t' _ => err = 3 ∧ t' = 0) SS 0 (WW.size : Int) wr (by omega) (by omega) (by omega) (fun ub r w0 hu hr => unpack_none ub r _ _ w0 hu hr (by rw [ByteArray.size_extract]; omega)))
        have TT := hid (T1.out.trans LS.out.touch (fun _ _ e => e))
        clear hSz
        have HK := hid hk0
        have HL := hid hl0
        clear hk0 hl0 hS0
        go_wp2_with fail
        refine US.out.mono ?_
        rintro e w2 ⟨⟨err, t', out, ⟨rfl, rfl⟩, _, hh⟩, tc⟩
        have TC := hid (TT.out.trans tc (fun _ _ e => e))
        clear tc US TT
        rcases hh with ⟨h0, _⟩ | ⟨_, rfl⟩
        · exact absurd h0 (by decide)
        rw [show ((0 + 0 / 8 : Nat) : Int) = 0 by rfl, show ((3 : Nat) : Int) = 3 by rfl]
        go_wp2
        go_ret
        exact ⟨rfl, (TC.out.alloc _).below _ (Nat.le_refl _) (fun _ e => e.elim)⟩
      · have hst := stream_all _ k hsm hk0
        have hSe : SS.extract 0 SS.size = SS := extract_whole SS
        have US := hid (Unpack_stream SS 0 (WW.size : Int) (wantTo (fun j => Bt.strNats (S j)) k) (8 * N) wr (by omega) (by omega) (by rw [hSe, HSS.out, HN.out]; exact hst) (by omega) (by omega) (by rw [← HWZ.out]; omega) (by rw [← HWZ.out]; omega))
        rw [HWW.out, show 0 + (8 * N + 7) / 8 = N by omega] at US
        clear hst hSe hSz
        have TT := hid (T1.out.trans LS.out.touch (fun _ _ e => e))
        have hne : ((len : Int) == 0) = false := by simp; omega
        by_cases hkl : k < len
        · have hk50 : ¬ k < 50 := by have := HM.out; omega
          go_wp2_with fail
          refine US.out.mono ?_
          rintro e w2 ⟨rfl, tc⟩
          have TC := hid (TT.out.trans tc (fun _ _ e => e))
          clear tc US TT
          go_wp2
          go_ret
          exact ⟨rfl, (TC.out.alloc _).below _ (Nat.le_refl _) (fun _ e => e.elim)⟩
        · go_wp2_with fail
          refine US.out.mono ?_
          rintro e w2 ⟨rfl, tc⟩
          have TC := hid (TT.out.trans tc (fun _ _ e => e))
          clear tc US TT
          go_wp2
          go_ret
          exact ⟨rfl, (TC.out.alloc _).below _ (Nat.le_refl _) (fun _ e => e.elim)⟩
set_option maxRecDepth 100000 in
theorem inflateStored_lifted (os : Os) (started : os.Started) (H : Type) (enc : TypeId × Value → H) :
    ReturnsInHanded {} Try.checked os 7 .any (Rows.inflateStoredSpec.pre6 enc Try.prog Try.f7 Rows.inflateStoredRow.domain false) (Rows.inflateStoredSpec.post enc Try.prog Try.f7 false true false false) := by
  refine returnsInHanded_of_change_sized (C := Try.checked) own started (by kernel_rfl) Try.func7
    (ChangeSpec.witness6 (enc := enc) (C := Try.checked) false ⟨#[], #[.slice none 0 0], []⟩ 8 (by kernel_rfl) (by kernel_rfl) (by kernel_rfl) (by kernel_rfl)) ?_
  intro W base args ds gs before hval0 hW hcnd hsz0 _
  have hsz : (DataW.weightsEach Try.prog (Try.f7.params.toList ++ Rows.inflateStoredSpec.plain.varTypes Try.prog) (ds ++ gs)).all (· ≤ reachBytes) = true := hsz0
  clear hsz0
  have hval : ∀ (j : Nat) t v, Try.f7.params[j]? = some t → args[j]? = some v → Value.okWide Try.prog W .any base t v := hval0
  have hW' := hW
  obtain ⟨p, q, hA0, hV, rfl, hfz, hnd⟩ := hW
  have hA : DataW.TrodAll enc Try.prog W 0 (fun _ => true) true Try.f7.params.toList args.toList ds p := hA0
  rw [Try.params7] at hA hval hsz
  obtain ⟨v0, vs0, d0, ds0, p0, q0, hargs, rfl, rfl, h0, r0⟩ := trodAll_cons hA
  obtain ⟨rfl, rfl, rfl⟩ := trodAll_nil r0
  obtain rfl : args = #[v0] := by cases args; simp_all
  obtain ⟨rfl, rfl⟩ := trodVars_none hV
  obtain ⟨a0, len0, cap0, rfl⟩ := okWide_slice Try.underlying50 (hval 0 50 v0 rfl rfl)
  have k0 := h0
  have lt0 : ∀ x ∈ p0, x.block < W.heap.size := by obtain ⟨m, hm⟩ := k0; exact DataW.trod_lt m _ _ _ hm
  obtain ⟨z0, w0, y0⟩ : ∃ S, SRow W a0 len0 S ∧ len0 ≤ 140737488351232 := by
    obtain ⟨fuel, hf⟩ := h0
    rcases Go.Deep.open_strs Try.underlying50 Try.underlying9 (by kernel_rfl) hf with ⟨hcs, _⟩ | ⟨x, l, c, m, Sx, hcs, _, hl, hm, hmm, hx, hcell⟩
    · simp [Value.cells] at hcs
      obtain ⟨rfl, rfl, rfl⟩ := hcs
      exact ⟨fun _ => ByteArray.empty, .inl rfl, by omega⟩
    · simp [Value.cells] at hcs
      obtain ⟨rfl, rfl, rfl⟩ := hcs
      simp only [Prod.mk.injEq] at hx
      obtain ⟨rfl, rfl⟩ := hx
      have hs := sized_slice hsz (j := 0) (t := 50) (e := 9) rfl rfl Try.underlying50
      rw [show Try.prog.bytesOf 9 = 16 by kernel_rfl] at hs
      simp only [List.length_map, List.length_range, reachBytes] at hs
      simp only [if_true] at hmm
      exact ⟨Sx, srow_of (fun i hi => (hcell i (by omega)).1), by omega⟩
  clear hA0 hval0
  refine (inflateStored_walk a0 len0 cap0 z0 W y0 w0).mono fun e W' ⟨he, bel⟩ => ?_
  subst he
  exact ⟨_, rfl, _, _, _, [], _, [], hW', trodAll_mk1 (shut_bool Try.underlying4 _), (trodAll_cons_mk (Below.trod laidOut (by kernel_rfl) (of_decide_eq_true (by kernel_rfl)) k0 bel lt0) trodAll_mk0), rfl, bel.frame _, fun h => by cases h⟩

theorem inflateStored_holds : Rows.InflateStoredSaid :=
  OpenClaim.holds_of_wide 7 Try.f7 rfl rfl rfl rfl rfl rfl rfl ⟨rfl, rfl, rfl, rfl, rfl⟩ rfl rfl rfl rfl rfl (by kernel_rfl) Try.func7 (by kernel_rfl)
    (of_decide_eq_true (by kernel_rfl)) (by unfold Func.isWrapper; first | (rw [if_pos (by decide +kernel)]; kernel_rfl) | (rw [if_neg (by decide +kernel)]; exact ⟨rfl, rfl⟩))
    (fun os started H enc _ => inflateStored_lifted os started H enc)
#print axioms inflateStored_holds
end Go.Proofs.Ytokelpnmeknncab
