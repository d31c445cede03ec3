/- Texts of this proof, one behind the other: what each says stands ahead of it. -/
import Derived.Test.YthengfclijclmaaM8
import Derived.Deep.RegionWith
import Derived.BigRegion
import Derived.OwnWalk
import Derived.Laws.Rows
import Derived.Test.YthengfclijclmaaM1
import Derived.Test.YthengfclijclmaaM4
import Derived.BigQuiet
import Derived.Test.YthengfclijclmaaM2
/- Unpack of stored blocks; conditions: they are whole, and there is room. -/
namespace Go.Proofs.Ythengfclijclmaa
open Go.RowKit

theorem Stream.small {s : ByteArray} {t tend : Nat} {bytes : List Nat} (h : Stream s t bytes tend) : (∀ x ∈ bytes, x < 256) ∧ tend ≤ 8 * s.size := by
  induction h with
  | last t n h1 hb hk h4 hn hn' =>
    refine ⟨fun x hx => ?_, by omega⟩
    simp at hx
    obtain ⟨i, _, rfl⟩ := hx
    exact Bt.byteN_lt _ _
  | more t n rest tend h1 hb hk h4 hn hn' hr ih =>
    refine ⟨fun x hx => ?_, ih.2⟩
    rcases List.mem_append.1 hx with hx | hx
    · simp at hx
      obtain ⟨i, _, rfl⟩ := hx
      exact Bt.byteN_lt _ _
    · exact ih.1 x hx

theorem up_new (w : World) (r : Nat) (most : Int) : Up (w.alloc (.cells #[.pointer (some ⟨r, 0, none⟩), .slice none 0 0, .int .i64 most, .pointer none, .pointer none] 93)) w.heap.size r (.slice none 0 0) [] most none none := by
  refine ⟨?_, by simpa [bytesV] using World.ownsRow_nil _ _ _ _⟩
  show (w.heap.push _)[_]? = _
  simp

theorem conv_up {w : World} {ub r : Nat} {v : Value} {out : List Nat} {most : Int} {tl td : Option Addr} (h : Up w ub r v out most tl td) (hb : ∀ x ∈ out, x < 256) (w' : World) (hw : w'.heap = w.heap) : (convert 25 9 v).run Try.prog w' = .ok (.string (strOf out)) w' := by
  have hown : w'.ownsRow 0 5 1 v out.length (bytesV out) := by
    refine ⟨h.2.1, ?_⟩
    rcases h.2.2 with h0 | ⟨g, cap, cur, hv, hg, hh, rest⟩
    · exact .inl h0
    · exact .inr ⟨g, cap, cur, hv, hg, by rw [hw]; exact hh, rest⟩
  rcases hown.2 with ⟨rfl, hz⟩ | ⟨g, cap, cur, rfl, _, hh, hle, _⟩
  · have hcv := run_convert_bytes_nil (P := Try.prog) w' 25 5 Try.underlying25 Try.underlying5 0 0 9 Try.underlying9
    have e : strOf out = ByteArray.empty := by
      rw [List.eq_nil_of_length_eq_zero (l := out) hz]
      rfl
    rw [e]
    exact hcv
  · have hc : ∀ j (hj : j < (out.map UInt8.ofNat).length), w'.cell? ((⟨g, 0, none⟩ : Addr).add j) = some (.int .u8 (((out.map UInt8.ofNat)[j]).toNat : Int)) := by
      intro j hj
      simp only [List.length_map] at hj
      refine hown.cells rfl j _ ?_
      have hlt := hb _ (List.getElem_mem hj)
      simp only [bytesV, List.getElem?_map, List.getElem?_eq_getElem hj, Option.map_some, List.getElem_map]
      rw [UInt8.toNat_ofNat_of_lt' (by simpa using hlt)]
    have hcv := run_convert_bytes_back (P := Try.prog) w' 25 9 5 ⟨g, 0, none⟩ cap (out.map UInt8.ofNat) Try.underlying25 Try.underlying5 Try.underlying9 hc
    rw [List.length_map] at hcv
    exact hcv

theorem results_ttc {P : Program} {fn : Func} {t u p : Tmp} {ty : TypeId} (h : fn.results = #[.tmp t, .tmp u, .cell p ty]) (tmps : Array Value) (w : World) (g : Nat) (et : TypeId) (cs : Array Value) (fr : Nat × Nat) (d : TypeDesc)
    (hp : tmps.getD p undef = .pointer (some ⟨g, 0, none⟩)) (hg : w.heap[g]? = some (.cells cs et fr))
    (hu : P.underlying ty = some d) (hd : (match d with | .struct _ | .array _ _ => true | _ => false) = true) (hi : (P.info? ty).map (·.size) = some cs.size) :
    (results fn tmps).run P w = .ok (.tuple #[tmps.getD t undef, tmps.getD u undef, .agg cs]) w := by
  have hp' : tmps[p]?.getD undef = .pointer (some ⟨g, 0, none⟩) := by simpa using hp
  simp [results, h, hp', asAddr, run_loadVar_row w g et ty cs fr d hg hu hd hi]

theorem place_val (fr tend : Nat) (h1 : fr ≤ 140737488351232) (h2 : tend ≤ 1125899906842624) : IntKind.i64.wrap ((fr : Int) + IntKind.i64.wrap ((IntKind.i64.wrap ((tend : Int) + 7)).tdiv 8)) = ((fr + (tend + 7) / 8 : Nat) : Int) := by
  rw [IntKind.wrap_i64, IntKind.wrap_i64, IntKind.wrap_i64]
  have e1 : ((tend : Int) + 7 + 9223372036854775808) % 18446744073709551616 - 9223372036854775808 = (tend : Int) + 7 := by omega
  rw [e1, Int.tdiv_eq_ediv_of_nonneg (by omega)]
  omega

set_option maxRecDepth 100000 in
set_option maxHeartbeats 4000000 in
theorem Unpack_stream (data : ByteArray) (fr : Nat) (most : Int) (bytes : List Nat) (tend : Nat) (w : World) (hd : data.size ≤ 140737488351232) (hf : fr ≤ data.size) (hS : Stream (data.extract fr data.size) 0 bytes tend) (hm0 : 0 ≤ most) (hm1 : most ≤ 9223372036854775807) (hroom : (bytes.length : Int) ≤ most) (hl : bytes.length ≤ 70368744177664) :
    Calls Try.prog 14 #[.string data, .int .i64 fr, .int .i64 most] w fun e w' => e = .returned (.tuple #[.string (strOf bytes), .int .i64 (fr + (tend + 7) / 8 : Nat), .agg #[.int .i64 0, .int .i64 0]]) ∧ Touch (fun _ => False) w w' := by
  have HS := hid hS
  obtain ⟨s, hs⟩ : ∃ s, s = data.extract fr data.size := ⟨_, rfl⟩
  have hss : s.size = data.size - fr := by rw [hs, ByteArray.size_extract]; omega
  rw [← hs] at HS
  have htend := HS.out.small.2
  clear hS
  go_enter Try.func14, Try.ntmps14
  go_wp2_with fail
  rw [← hs]
  clear hs
  refine (open_any _ _).mono ?_
  rintro e w1 ⟨rfl, rfl⟩
  have T0 := hid (((Touch.refl (fun _ => False) w).alloc (.cells #[.int .i64 0, .int .i64 0] 47)))
  have hw0 : w.heap.size < (w.alloc (.cells #[.int .i64 0, .int .i64 0] 47)).heap.size := by simp
  have fb0 : (w.alloc (.cells #[.int .i64 0, .int .i64 0] 47)).heap[w.heap.size]? = some (.cells #[.int .i64 0, .int .i64 0] 47 (0, 0)) := by
    show (w.heap.push _)[_]? = _
    simp
  generalize w.alloc (.cells #[.int .i64 0, .int .i64 0] 47) = wA at *
  have fb1 : (wA.alloc (.cells #[.string s, .int .i64 0] 118)).heap[w.heap.size]? = some (.cells #[.int .i64 0, .int .i64 0] 47 (0, 0)) := by rw [Below.heap_alloc _ _ _ hw0]; exact fb0
  have rd0 := rd_new wA s
  have T1 := hid (T0.out.alloc (.cells #[.string s, .int .i64 0] 118))
  have hw1 : wA.heap.size < (wA.alloc (.cells #[.string s, .int .i64 0] 118)).heap.size := by simp
  generalize hwB : wA.alloc (.cells #[.string s, .int .i64 0] 118) = wB at *
  clear hwB
  generalize wA.heap.size = r at *
  have fb2 : (wB.alloc (.cells #[.pointer (some ⟨r, 0, none⟩), .slice none 0 0, .int .i64 most, .pointer none, .pointer none] 93)).heap[w.heap.size]? = some (.cells #[.int .i64 0, .int .i64 0] 47 (0, 0)) := by rw [Below.heap_alloc _ _ _ (by omega)]; exact fb1
  have FB2 := hid fb2
  clear fb0 fb1 fb2
  have up0 := up_new wB r most
  have rd1 : Rd (wB.alloc (.cells #[.pointer (some ⟨r, 0, none⟩), .slice none 0 0, .int .i64 most, .pointer none, .pointer none] 93)) r s 0 := by
    unfold Rd at rd0 ⊢
    rw [Below.heap_alloc _ _ _ hw1]
    exact rd0
  have T2 := hid (T1.out.alloc (.cells #[.pointer (some ⟨r, 0, none⟩), .slice none 0 0, .int .i64 most, .pointer none, .pointer none] 93))
  have US := hid (unpack_stream wB.heap.size r _ most none none s 0 tend bytes _ up0 rd1 (by omega) HS.out hm0 hm1 hroom hl)
  clear up0 rd1 rd0
  go_wp2_with fail
  refine US.out.mono ?_
  rintro e w2 ⟨rfl, v', u2, r2, tc2, o2⟩
  have U2 := hid u2
  have R2 := hid r2
  have T3 := hid (T2.out.trans tc2 (fun k hk e => by
    rcases e with e | e | e
    · omega
    · omega
    · simp [Value.ownBlock] at e))
  have fb3 : w2.heap[w.heap.size]? = some (.cells #[.int .i64 0, .int .i64 0] 47 (0, 0)) := by
    rw [tc2.block _ (lt_of_block FB2.out) (fun e => by
      rcases e with e | e | e
      · omega
      · omega
      · simp [Value.ownBlock] at e)]
    exact FB2.out
  have g0 : w2.cell? ⟨w.heap.size, 0, none⟩ = some (.int .i64 0) := by simp [World.cell?, fb3]
  have g1 : w2.cell? ⟨w.heap.size, 1, none⟩ = some (.int .i64 0) := by simp [World.cell?, fb3]
  have gf0 : w2.frozen? ⟨w.heap.size, 0, none⟩ = false := by simp [World.frozen?, fb3]
  have gf1 : w2.frozen? ⟨w.heap.size, 1, none⟩ = false := by simp [World.frozen?, fb3]
  have FB3 := hid fb3
  clear fb3 FB2
  clear u2 r2 tc2 o2 US
  obtain ⟨av, cv, hav⟩ := up_shape U2.out
  have hcv : (convert 25 9 v').run Try.prog w2.drew = .ok (.string (strOf bytes)) w2.drew := conv_up U2.out HS.out.small.1 _ rfl
  have c0 := (up_cells U2.out).1
  have c1 := (up_cells U2.out).2.1
  subst hav
  obtain ⟨SS, hSS⟩ : ∃ SS, strOf bytes = SS := ⟨_, rfl⟩
  rw [hSS] at hcv
  have HSS := hid hSS
  clear hSS
  go_wp2_with fail
  clear T0 T1 T2
  have TK := hid (taken_any r s tend w2.drew R2.out)
  have HPV := hid (place_val fr tend (by omega) (by omega))
  go_region_with (go_at_call 30; refine TK.out.mono ?_; rintro e w3 ⟨rfl, rfl⟩)
  all_goals
    rw [HPV.out]
    go_wp2
    have hfb := two_set1 (x := .int .i64 0) (two_set0 (x := .int .i64 0) (w := w2.drew) FB3.out)
    (try simp only [Exit.inBlock, Exit.then])
    refine bodyPost_ret (results_ttc rfl _ _ w.heap.size 47 _ (0, 0) _ rfl hfb Try.underlying47 rfl (by kernel_rfl)) rfl ?_
    refine ⟨?_, ((T3.out.drew.setCell (fun h => absurd h (Nat.lt_irrefl _)) _).setCell (fun h => absurd h (Nat.lt_irrefl _)) _)⟩
    rw [HSS.out]
    rfl
end Go.Proofs.Ythengfclijclmaa

/- New where there is something wrong with the lengths. -/
namespace Go.Proofs.Ythengfclijclmaa
open Go.RowKit

theorem new_big (a : Option Addr) (len cap : Nat) (w : World) (hl : 1024 < len) (hb : len ≤ 140737488351232) :
    Calls Try.prog 49 #[.slice a len cap] w fun e w' => e = .returned (.tuple #[.pointer none, .int .i64 1]) ∧ w' = w := by
  go_enter Try.func49, Try.ntmps49
  go_wp2
  go_ret2
  exact ⟨rfl, rfl⟩

/-- Counted so far, nought among them. -/
def cnts (f : Nat → Nat) (k j : Nat) : Nat := cntTo f j k

theorem cnts_step (f : Nat → Nat) (k j : Nat) : (if j = f k then cnts f k (f k) + 1 else cnts f k j) = cnts f (k + 1) j := by
  unfold cnts
  by_cases e : j = f k
  · subst e; rw [if_pos rfl, cntTo, if_pos rfl]
  · rw [if_neg e, cntTo, if_neg (fun h => e h.symm), Nat.add_zero]

theorem blk_zero (w : World) : Blk (w.alloc (.cells #[.int .i64 0, .int .i64 0, .int .i64 0, .int .i64 0, .int .i64 0, .int .i64 0, .int .i64 0, .int .i64 0, .int .i64 0, .int .i64 0, .int .i64 0, .int .i64 0, .int .i64 0, .int .i64 0, .int .i64 0, .int .i64 0] 143)) w.heap.size (fun _ => 0) := blk_new w (fun _ => 0)

set_option maxRecDepth 100000 in
set_option maxHeartbeats 4000000 in
theorem new_bad (a : Option Addr) (len cap m : Nat) (g : Nat → Int) (f : Nat → Nat) (w : World) (hl : len ≤ 1024) (hf : ∀ i, f i ≤ 15) (hi : Ints w a len g) (hm : m < len) (hg : ∀ i, i < m → g i = (f i : Nat)) (hbad : g m < 0 ∨ 15 < g m) :
    Calls Try.prog 49 #[.slice a len cap] w fun e w' => e = .returned (.tuple #[.pointer none, .int .i64 1]) ∧ Touch (fun _ => False) w w' := by
  have HF := hid hf
  have HI := hid hi
  have HG := hid hg
  have HB := hid hbad
  clear hf hi hg hbad
  go_enter Try.func49, Try.ntmps49
  go_wp2_with fail
  go_loopw [16] (fun i wr => ∃ k : Nat, k ≤ m ∧ i = .int .i64 k ∧ Blk wr w.heap.size (cnts f k) ∧ Touch (fun _ => False) w wr) (fun i _ => m - (intOf i).toNat)
  case atStart => exact ⟨0, Nat.zero_le _, rfl, blk_zero w, (Touch.refl _ w).alloc _⟩
  case round =>
    obtain ⟨k, hk, rfl, hb1, ht⟩ := hrel
    have Z := hid hb1
    have TT := hid ht
    clear hb1 ht
    have hkl : k < len := by omega
    rcases (HI.out.new TT.out) with h | ⟨b, o, ha, hb, hcell⟩
    · omega
    · subst ha
      by_cases hlt : k < m
      · have d0 : wr.cell? ⟨b, o + k, none⟩ = some (.int .i64 (f k : Nat)) := by rw [hcell k hkl, HG.out k hlt]
        have hfk := HF.out k
        have d1 := Z.out.cell (f k) (by omega)
        have d2 := Z.out.free (f k)
        have hcn : cnts f k (f k) ≤ 1024 := by have := cntTo_le f (f k) k; unfold cnts; omega
        have hst := hid ((Z.out.set (f k) (cnts f k (f k) + 1)).ext (fun j _ => cnts_step f k j))
        generalize cnts f k (f k) = x at *
        clear hcell
        go_wp2
        go_roundw
        case rel => exact ⟨k + 1, by omega, by go_num, by have := hst.out; simpa using this, TT.out.setCell (fun h => by simp at h) _⟩
        case measure => simp [intOf]; omega
      · obtain rfl : k = m := by omega
        have d0 : wr.cell? ⟨b, o + k, none⟩ = some (.int .i64 (g k)) := hcell k hkl
        clear hcell
        have hB := HB.out
        generalize g k = x at *
        by_cases hn : x < 0
        · go_wp2
          go_ret2
          exact ⟨rfl, TT.out⟩
        · have hp : 15 < x := by omega
          go_wp2
          go_ret2
          exact ⟨rfl, TT.out⟩
end Go.Proofs.Ythengfclijclmaa

/- New where the lengths take too much room, or too little. -/
namespace Go.Proofs.Ythengfclijclmaa
open Go.RowKit

theorem cnts_cOf (f : Nat → Nat) (k j : Nat) : (if j = 0 then 0 else cnts f k j) = cOf f k j := by unfold cnts cOf; rfl

set_option maxRecDepth 100000 in
set_option maxHeartbeats 4000000 in
theorem new_err (a : Option Addr) (len cap : Nat) (f : Nat → Nat) (w : World) (hl : len ≤ 1024) (hf : ∀ i, f i ≤ 15) (hi : Ints w a len (fun i => (f i : Nat))) (he : errOf f len ≠ 0) :
    Calls Try.prog 49 #[.slice a len cap] w fun e w' => e = .returned (.tuple #[.pointer none, .int .i64 (errOf f len : Nat)]) ∧ Touch (fun _ => False) w w' := by
  have HF := hid hf
  have HI := hid hi
  have HE := hid he
  clear hf hi he
  go_enter Try.func49, Try.ntmps49
  go_wp2_with fail
  go_loopw [16] (fun i wr => ∃ k : Nat, k ≤ len ∧ i = .int .i64 k ∧ Blk wr w.heap.size (cnts f k) ∧ Touch (fun _ => False) w wr) (fun i _ => len - (intOf i).toNat)
  case atStart => exact ⟨0, Nat.zero_le _, rfl, blk_zero w, (Touch.refl _ w).alloc _⟩
  case round =>
    obtain ⟨k, hk, rfl, hb1, ht⟩ := hrel
    have Z := hid hb1
    have TT := hid ht
    clear hb1 ht
    by_cases hlt : k < len
    · rcases (HI.out.new TT.out) with h | ⟨b, o, ha, hb, hcell⟩
      · omega
      · subst ha
        have d0 : wr.cell? ⟨b, o + k, none⟩ = some (.int .i64 (f k : Nat)) := hcell k hlt
        have hfk := HF.out k
        have d1 := Z.out.cell (f k) (by omega)
        have d2 := Z.out.free (f k)
        have hcn : cnts f k (f k) ≤ 1024 := by have := cntTo_le f (f k) k; unfold cnts; omega
        have hst := hid ((Z.out.set (f k) (cnts f k (f k) + 1)).ext (fun j _ => cnts_step f k j))
        generalize cnts f k (f k) = x at *
        clear hcell
        go_wp2
        go_roundw
        case rel => exact ⟨k + 1, by omega, by go_num, by have := hst.out; simpa using this, TT.out.setCell (fun h => by simp at h) _⟩
        case measure => simp [intOf]; omega
    · obtain rfl : k = len := by omega
      have d2 := Z.out.free 0
      have c0 := Z.out.cell 0 (by decide)
      have c1 := Z.out.cell 1 (by decide)
      have c2 := Z.out.cell 2 (by decide)
      have c3 := Z.out.cell 3 (by decide)
      have c4 := Z.out.cell 4 (by decide)
      have c5 := Z.out.cell 5 (by decide)
      have c6 := Z.out.cell 6 (by decide)
      have c7 := Z.out.cell 7 (by decide)
      have c8 := Z.out.cell 8 (by decide)
      have c9 := Z.out.cell 9 (by decide)
      have c10 := Z.out.cell 10 (by decide)
      have c11 := Z.out.cell 11 (by decide)
      have c12 := Z.out.cell 12 (by decide)
      have c13 := Z.out.cell 13 (by decide)
      have c14 := Z.out.cell 14 (by decide)
      have c15 := Z.out.cell 15 (by decide)
      have hst := hid ((Z.out.set 0 0).ext (fun j _ => cnts_cOf f k j))
      have hnx : ¬ (k : Int) < (k : Int) := by omega
      have hA : cArr (cOf f k) = #[.int .i64 0, .int .i64 (cnts f k 1 : Nat), .int .i64 (cnts f k 2 : Nat), .int .i64 (cnts f k 3 : Nat), .int .i64 (cnts f k 4 : Nat), .int .i64 (cnts f k 5 : Nat), .int .i64 (cnts f k 6 : Nat), .int .i64 (cnts f k 7 : Nat), .int .i64 (cnts f k 8 : Nat), .int .i64 (cnts f k 9 : Nat), .int .i64 (cnts f k 10 : Nat), .int .i64 (cnts f k 11 : Nat), .int .i64 (cnts f k 12 : Nat), .int .i64 (cnts f k 13 : Nat), .int .i64 (cnts f k 14 : Nat), .int .i64 (cnts f k 15 : Nat)] := by simp [cArr, cOf, cnts]
      have HA := hid hA
      clear hA
      go_wp2_with fail
      rw [← HA.out]
      refine (room_any (cOf f k) _ (fun i => by have := cOf_le f k i; omega)).mono ?_
      rintro e w1 ⟨rfl, ht⟩
      rw [err_eq f HF.out k]
      have hne : ((errOf f k : Int) == 0) = false := by have := HE.out; simp; omega
      have T1 := hid ((TT.out.setCell (p := ⟨w.heap.size, 0, none⟩) (fun h => by simp at h) (.int .i64 0)).trans ht (fun _ _ e => e))
      clear ht
      obtain ⟨er, her⟩ : ∃ er, errOf f k = er := ⟨_, rfl⟩
      rw [her] at hne ⊢
      have HER := hid her
      clear her
      generalize cArr (cOf f k) = A at *
      go_wp2
      go_ret2
      exact ⟨by rw [HER.out]; rfl, T1.out⟩
end Go.Proofs.Ythengfclijclmaa

/- Plain facts on how a symbol is laid into a table: the walk down its rows, and the cells that are filled; no condition. -/
namespace Go.Proofs.Ythengfclijclmaa
namespace Tb

theorem noHere {laid : Nat → Prop} {f path : Nat → Nat} {i0 : Nat} (hs : Sym (fun i => laid i ∨ i = i0) f path) (hnot : ¬ laid i0) (d : Nat) (h1 : 5 * (d + 1) < f i0) :
    ∀ i, ¬ Here laid f path d (path i0 % 2 ^ (5 * (d + 1))) i := by
  rintro i ⟨hl, a1, a2, a3⟩
  rw [mod_mod (by omega)] at a3
  have := hs.apart i i0 (.inl hl) (.inr rfl) (by omega) a3
  subst this
  exact hnot hl

/-- On the way of symbol i0, at depth d, in the row that begins at row. -/
def Walk (C : Cells) (sz : Nat) (laid : Nat → Prop) (f path : Nat → Nat) (i0 n d row : Nat) : Prop :=
  sz % 32 = 0 ∧ sz ≤ 96 * n + 32 * (d + 1) ∧ ∃ E R, Inv C sz laid f path E R ∧ (∀ d q, E (d + 1) q → ∃ j, (laid j ∨ j = i0) ∧ 5 * (d + 1) < f j ∧ path j % 2 ^ (5 * (d + 1)) = q) ∧
    (∀ d', d' ≤ d → E d' (path i0 % 2 ^ (5 * d'))) ∧ R d (path i0 % 2 ^ (5 * d)) = row

theorem Walk.lt {C : Cells} {sz : Nat} {laid : Nat → Prop} {f path : Nat → Nat} {i0 n d row : Nat} (h : Walk C sz laid f path i0 n d row) : row % 32 = 0 ∧ row + 32 ≤ sz := by
  obtain ⟨_, _, E, R, v, _, hE, hr⟩ := h
  obtain ⟨r, h1, h2⟩ := v.row d _ (hE d (Nat.le_refl _))
  omega

theorem Walk.step {C : Cells} {sz : Nat} {laid : Nat → Prop} {f path : Nat → Nat} {i0 n d row : Nat} (h : Walk C sz laid f path i0 n d row)
    (hs : Sym (fun i => laid i ∨ i = i0) f path) (hnot : ¬ laid i0) (h1 : 5 * (d + 1) < f i0) :
    (0 < C.F (row + path i0 / 2 ^ (5 * d) % 32) ∧ Walk C sz laid f path i0 n (d + 1) (C.F (row + path i0 / 2 ^ (5 * d) % 32))) ∨
    (C.F (row + path i0 / 2 ^ (5 * d) % 32) = 0 ∧ ∀ C' : Cells, (∀ x, x < sz → x ≠ row + path i0 / 2 ^ (5 * d) % 32 → C'.S x = C.S x ∧ C'.L x = C.L x ∧ C'.F x = C.F x) → C'.F (row + path i0 / 2 ^ (5 * d) % 32) = sz →
      (∀ x, x < 32 → C'.L (sz + x) = 0 ∧ C'.F (sz + x) = 0) → Walk C' (sz + 32) laid f path i0 n (d + 1) sz) := by
  obtain ⟨h32, hle, E, R, v, hown, hE, hr⟩ := h
  have he := hE d (Nat.le_refl _)
  have hc : path i0 / 2 ^ (5 * d) % 32 < 32 := Nat.mod_lt _ (by decide)
  have hq : path i0 % 2 ^ (5 * d) + (path i0 / 2 ^ (5 * d) % 32) * 2 ^ (5 * d) = path i0 % 2 ^ (5 * (d + 1)) := by rw [succ5, split]
  have hno := noHere hs hnot d h1
  subst hr
  by_cases hx : E (d + 1) (path i0 % 2 ^ (5 * (d + 1)))
  · have ho := v.on d _ _ he hc (by rw [hq]; exact hx)
    rw [hq] at ho
    have hpos : 0 < R (d + 1) (path i0 % 2 ^ (5 * (d + 1))) := by
      rcases Nat.eq_zero_or_pos (R (d + 1) (path i0 % 2 ^ (5 * (d + 1)))) with h0 | h0
      · have := (v.inj _ _ 0 0 hx v.root.1 (by rw [h0, v.root.2])).1
        omega
      · exact h0
    refine .inl ⟨by rw [ho.2]; exact hpos, h32, by omega, E, R, v, hown, ?_, ho.2.symm⟩
    intro d' hd'
    rcases Nat.lt_or_ge d' (d + 1) with h | h
    · exact hE d' (by omega)
    · obtain rfl : d' = d + 1 := by omega
      exact hx
  · have hn := v.none d _ _ he hc (by rw [hq]; exact hx) (by rw [hq]; exact hno)
    refine .inr ⟨hn.2, ?_⟩
    intro C' hsame hat hnew
    have va := v.add ⟨sz / 32, by omega⟩ d _ _ he hc (by rw [hq]; exact hx) (by rw [hq]; exact hno) hsame hat hnew
    rw [hq] at va
    refine ⟨by omega, by omega, _, _, va, ?_, ?_, ?_⟩
    · rintro d' q' (h | ⟨h2, h3⟩)
      · exact hown d' q' h
      · obtain rfl : d' = d := by omega
        exact ⟨i0, .inr rfl, h1, h3.symm⟩
    · intro d' hd'
      rcases Nat.lt_or_ge d' (d + 1) with h | h
      · exact .inl (hE d' (by omega))
      · obtain rfl : d' = d + 1 := by omega
        exact .inr ⟨rfl, rfl⟩
    · exact if_pos ⟨rfl, rfl⟩

/-- A first row, with nothing in it. -/
theorem Walk.first {C : Cells} {laid : Nat → Prop} {f path : Nat → Nat} (i0 n : Nat) (hno : ∀ i, ¬ laid i) (hc : ∀ x, x < 32 → C.L x = 0 ∧ C.F x = 0) : Walk C 32 laid f path i0 n 0 0 := by
  refine ⟨rfl, by omega, fun d q => d = 0 ∧ q = 0, fun _ _ => 0, ⟨⟨⟨rfl, rfl⟩, rfl⟩, ?_, ?_, ?_, ?_, ?_, ?_, ?_, ?_⟩, ?_, ?_, rfl⟩
  · intro d q _
    exact ⟨0, rfl, by omega⟩
  · rintro d q d' q' ⟨rfl, rfl⟩ ⟨rfl, rfl⟩ _
    exact ⟨rfl, rfl⟩
  · rintro d q ⟨rfl, rfl⟩
    exact Nat.pow_pos (by decide)
  · rintro d q ⟨h, _⟩
    omega
  · intro i hi
    exact absurd hi (hno i)
  · intro d q c i _ _ hh
    exact absurd hh.1 (hno i)
  · rintro d q c _ _ ⟨h, _⟩
    omega
  · intro d q c _ hc' _ _
    rw [Nat.zero_add]
    exact hc c hc'
  · rintro d q ⟨h, _⟩
    omega
  · intro d' hd'
    obtain rfl : d' = 0 := by omega
    exact ⟨rfl, by simp [Nat.mod_one]⟩

theorem fit_iff (p d l c : Nat) (h : 5 * d ≤ l) : (p % 2 ^ (5 * d) + c * 2 ^ (5 * d)) % 2 ^ l = p ↔ c % 2 ^ (l - 5 * d) = p / 2 ^ (5 * d) := by
  have hl : 2 ^ l = 2 ^ (5 * d) * 2 ^ (l - 5 * d) := by rw [← Nat.pow_add]; congr 1; omega
  have hpos : 0 < 2 ^ (5 * d) := Nat.pow_pos (by decide)
  have hm := Nat.mod_lt p hpos
  rw [hl, Nat.mod_mul, Nat.add_mul_mod_self_right, Nat.mod_mod, Nat.add_mul_div_right _ _ hpos, Nat.div_eq_of_lt hm, Nat.zero_add]
  have hp := Nat.mod_add_div p (2 ^ (5 * d))
  constructor
  · intro e
    have : 2 ^ (5 * d) * (c % 2 ^ (l - 5 * d)) = 2 ^ (5 * d) * (p / 2 ^ (5 * d)) := by omega
    exact Nat.eq_of_mul_eq_mul_left hpos this
  · intro e
    rw [e]
    exact hp

/-- The cells of a row up to i whose place goes on as p0 by b are the symbol's. -/
def fillTo (C : Cells) (row p0 b s l i : Nat) : Cells :=
  ⟨fun x => if row ≤ x ∧ x < row + i ∧ (x - row) % b = p0 then s else C.S x, fun x => if row ≤ x ∧ x < row + i ∧ (x - row) % b = p0 then l else C.L x,
    fun x => if row ≤ x ∧ x < row + i ∧ (x - row) % b = p0 then 0 else C.F x⟩

theorem fillTo_pos {C : Cells} {row p0 b s l i x : Nat} (h : row ≤ x ∧ x < row + i ∧ (x - row) % b = p0) : (fillTo C row p0 b s l i).S x = s ∧ (fillTo C row p0 b s l i).L x = l ∧ (fillTo C row p0 b s l i).F x = 0 := by
  refine ⟨?_, ?_, ?_⟩ <;> exact if_pos h
theorem fillTo_neg {C : Cells} {row p0 b s l i x : Nat} (h : ¬ (row ≤ x ∧ x < row + i ∧ (x - row) % b = p0)) : (fillTo C row p0 b s l i).S x = C.S x ∧ (fillTo C row p0 b s l i).L x = C.L x ∧ (fillTo C row p0 b s l i).F x = C.F x := by
  refine ⟨?_, ?_, ?_⟩ <;> exact if_neg h

theorem fillTo_zero {C : Cells} {row p0 b s l : Nat} (hp : p0 < b) (x : Nat) : (fillTo C row p0 b s l p0).S x = C.S x ∧ (fillTo C row p0 b s l p0).L x = C.L x ∧ (fillTo C row p0 b s l p0).F x = C.F x := by
  refine fillTo_neg ?_
  rintro ⟨h1, h2, h3⟩
  rw [Nat.mod_eq_of_lt (by omega)] at h3
  omega

/-- One cell more. -/
theorem fillTo_step {C : Cells} {row p0 b s l i : Nat} (hb : 0 < b) (hp : i % b = p0) (x : Nat) :
    (x = row + i → (fillTo C row p0 b s l (i + b)).S x = s ∧ (fillTo C row p0 b s l (i + b)).L x = l ∧ (fillTo C row p0 b s l (i + b)).F x = 0) ∧
    (x ≠ row + i → (fillTo C row p0 b s l (i + b)).S x = (fillTo C row p0 b s l i).S x ∧ (fillTo C row p0 b s l (i + b)).L x = (fillTo C row p0 b s l i).L x ∧ (fillTo C row p0 b s l (i + b)).F x = (fillTo C row p0 b s l i).F x) := by
  constructor
  · rintro rfl
    exact fillTo_pos ⟨by omega, by omega, by rw [Nat.add_sub_cancel_left]; exact hp⟩
  · intro hne
    by_cases h : row ≤ x ∧ x < row + i ∧ (x - row) % b = p0
    · obtain ⟨a1, a2, a3⟩ := fillTo_pos (C := C) (s := s) (l := l) h
      obtain ⟨b1, b2, b3⟩ := fillTo_pos (C := C) (s := s) (l := l) (i := i + b) (x := x) ⟨h.1, by omega, h.2.2⟩
      rw [a1, a2, a3]
      exact ⟨b1, b2, b3⟩
    · obtain ⟨a1, a2, a3⟩ := fillTo_neg (C := C) (s := s) (l := l) h
      rw [a1, a2, a3]
      refine fillTo_neg ?_
      rintro ⟨h1, h2, h3⟩
      have hge : i ≤ x - row := by
        rcases Nat.lt_or_ge (x - row) i with h' | h'
        · exact absurd ⟨h1, by omega, h3⟩ h
        · exact h'
      have hd := Nat.mod_add_div (x - row) b
      have hi := Nat.mod_add_div i b
      rw [h3] at hd
      rw [hp] at hi
      rcases Nat.lt_trichotomy ((x - row) / b) (i / b) with g | g | g
      · have := Nat.mul_le_mul_left b (show (x - row) / b + 1 ≤ i / b from g)
        rw [Nat.mul_add] at this
        omega
      · rw [g] at hd
        omega
      · have := Nat.mul_le_mul_left b (show i / b + 1 ≤ (x - row) / b from g)
        rw [Nat.mul_add] at this
        omega

/-- The last row filled: the symbol is laid. -/
theorem Walk.fill {C : Cells} {sz : Nat} {laid : Nat → Prop} {f path : Nat → Nat} {i0 n d row i : Nat} (h : Walk C sz laid f path i0 n d row)
    (hs : Sym (fun i => laid i ∨ i = i0) f path) (hnot : ¬ laid i0) (h1 : 5 * d < f i0) (h2 : f i0 ≤ 5 * d + 5) (hi : 32 ≤ i) (hi2 : i < 32 + 2 ^ (f i0 - 5 * d)) (him : i % 2 ^ (f i0 - 5 * d) = path i0 / 2 ^ (5 * d)) :
    ∃ E R, Inv (fillTo C row (path i0 / 2 ^ (5 * d)) (2 ^ (f i0 - 5 * d)) i0 (f i0) i) sz (fun i => laid i ∨ i = i0) f path E R ∧ ∀ d q, E (d + 1) q → ∃ j, (laid j ∨ j = i0) ∧ 5 * (d + 1) < f j ∧ path j % 2 ^ (5 * (d + 1)) = q := by
  obtain ⟨h32, hle, E, R, v, hown, hE, hr⟩ := h
  refine ⟨E, R, ?_, hown⟩
  refine v.fill i0 d hs hnot h1 h2 ?_ hown ?_ ?_
  · intro d' hd'
    exact hE d' (by omega)
  · intro c hc hfit
    rw [hr]
    refine fillTo_pos ⟨by omega, by omega, ?_⟩
    rw [Nat.add_sub_cancel_left]
    exact (fit_iff _ d _ c (by omega)).mp hfit
  · intro x hx
    refine fillTo_neg ?_
    rintro ⟨a1, a2, a3⟩
    -- the places beyond the row that fit are none: the last place below i that fits is below 32
    have hlt : x - row < 32 := by
      rcases Nat.lt_or_ge (x - row) 32 with g | g
      · exact g
      · exfalso
        have hpos : 0 < 2 ^ (f i0 - 5 * d) := Nat.pow_pos (by decide)
        have hd := Nat.mod_add_div (x - row) (2 ^ (f i0 - 5 * d))
        have hj := Nat.mod_add_div i (2 ^ (f i0 - 5 * d))
        rw [a3] at hd
        rw [him] at hj
        rcases Nat.lt_or_ge ((x - row) / 2 ^ (f i0 - 5 * d)) (i / 2 ^ (f i0 - 5 * d)) with k | k
        · have := Nat.mul_le_mul_left (2 ^ (f i0 - 5 * d)) (show (x - row) / 2 ^ (f i0 - 5 * d) + 1 ≤ i / 2 ^ (f i0 - 5 * d) from k)
          rw [Nat.mul_add] at this
          omega
        · have := Nat.mul_le_mul_left (2 ^ (f i0 - 5 * d)) k
          omega
    refine hx (x - row) hlt ((fit_iff _ d _ _ (by omega)).mpr a3) ?_
    rw [hr]
    omega
end Tb
end Go.Proofs.Ythengfclijclmaa
