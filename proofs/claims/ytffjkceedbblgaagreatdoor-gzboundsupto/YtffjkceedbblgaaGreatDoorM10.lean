/- Texts of this proof, one behind the other: what each says stands ahead of it. -/
import Derived.Test.YtffjkceedbblgaaGreatDoorM9
import Derived.Test.YtffjkceedbblgaaGreatDoorM8
import Derived.Deep.RegionWith
import Derived.BigRegion
import Derived.OwnWalk
import Derived.Laws.Rows
import Derived.Test.YtffjkceedbblgaaGreatDoorM2
import Derived.Test.YtffjkceedbblgaaGreatDoorM4
import Derived.BigQuiet
import Derived.Test.YtffjkceedbblgaaGreatDoorM1
/- Plain facts: what is unpacked stays within its bounds; no condition beside those told. -/
namespace Go.Proofs.YtffjkceedbblgaaGreatDoor
namespace Inf

/-- What is unpacked so far is within the bound, and no more than its bits can tell. -/
structure Bd (s : ByteArray) (most t : Nat) (out : List Nat) : Prop where
  most : out.length ≤ most
  bits : out.length ≤ 50000 * t
  small : ∀ x ∈ out, x < 256
  fits : t ≤ 8 * s.size

theorem Bd.later {s : ByteArray} {most t t' : Nat} {out : List Nat} (h : Bd s most t out) (ht : t ≤ t') (hf : t' ≤ 8 * s.size) : Bd s most t' out := ⟨h.most, by have := h.bits; omega, h.small, hf⟩

/-- It fits into memory. -/
theorem Bd.room {s : ByteArray} {most t : Nat} {out : List Nat} (h : Bd s most t out) (hc : most ≤ 70368744177664 ∨ 400000 * s.size ≤ 70368744177664) : out.length ≤ 70368744177664 := by
  have h1 := h.most
  have h2 := h.bits
  have h3 := h.fits
  omega

theorem ag_keeps {fd : Nat → Nat} {ld : Nat} {s : ByteArray} {most sym t : Nat} {out : List Nat} {e t2 : Nat} {out2 : List Nat} (h : ag fd ld s most sym t out = (e, t2, out2)) (hs : 257 ≤ sym) (hb : Bd s most t out) : Bd s most t2 out2 ∧ t ≤ t2 := by
  unfold ag at h
  by_cases c1 : 285 < sym
  · rw [if_pos c1] at h
    simp only [Prod.mk.injEq] at h
    obtain ⟨rfl, rfl, rfl⟩ := h
    exact ⟨hb, Nat.le_refl _⟩
  rw [if_neg c1] at h
  by_cases c2 : 8 * s.size < t + lb sym
  · rw [if_pos c2] at h
    simp only [Prod.mk.injEq] at h
    obtain ⟨rfl, rfl, rfl⟩ := h
    exact ⟨hb, Nat.le_refl _⟩
  rw [if_neg c2] at h
  obtain ⟨er, d, t1, hn⟩ : ∃ er d t1, nx fd ld s (t + lb sym) = (er, d, t1) := ⟨_, _, _, rfl⟩
  simp only [hn] at h
  have hf := nx_fits hn (by omega)
  by_cases c3 : er ≠ 0
  · rw [if_pos c3] at h
    simp only [Prod.mk.injEq] at h
    obtain ⟨rfl, rfl, rfl⟩ := h
    exact ⟨hb.later (by omega) (by omega), by omega⟩
  rw [if_neg c3] at h
  have hf1 := hf.2.2.1 (by omega)
  by_cases c4 : 29 < d
  · rw [if_pos c4] at h
    simp only [Prod.mk.injEq] at h
    obtain ⟨rfl, rfl, rfl⟩ := h
    exact ⟨hb.later (by omega) (by omega), by omega⟩
  rw [if_neg c4] at h
  by_cases c5 : 8 * s.size < t1 + db d
  · rw [if_pos c5] at h
    simp only [Prod.mk.injEq] at h
    obtain ⟨rfl, rfl, rfl⟩ := h
    exact ⟨hb.later (by omega) (by omega), by omega⟩
  rw [if_neg c5] at h
  by_cases c6 : out.length < dl d + Bt.rval s t1 (db d)
  · rw [if_pos c6] at h
    simp only [Prod.mk.injEq] at h
    obtain ⟨rfl, rfl, rfl⟩ := h
    exact ⟨hb.later (by omega) (by omega), by omega⟩
  rw [if_neg c6] at h
  by_cases c7 : most < out.length + (lenN sym + Bt.rval s t (lb sym))
  · rw [if_pos c7] at h
    simp only [Prod.mk.injEq] at h
    obtain ⟨rfl, rfl, rfl⟩ := h
    exact ⟨hb.later (by omega) (by omega), by omega⟩
  rw [if_neg c7] at h
  simp only [Prod.mk.injEq] at h
  obtain ⟨rfl, rfl, rfl⟩ := h
  have hl := length_again (dl d + Bt.rval s t1 (db d)) (lenN sym + Bt.rval s t (lb sym)) out
  have h1 := lenN_small sym hs (by omega)
  have h2 := rval_13 s t (lb sym) (lb_small sym (by omega))
  have h3 := hb.bits
  exact ⟨⟨by omega, by omega, again_small _ _ _ hb.small, by omega⟩, by omega⟩
end Inf
end Go.Proofs.YtffjkceedbblgaaGreatDoor

/- Unpack of stored blocks; conditions: they are whole, and there is room. -/
namespace Go.Proofs.YtffjkceedbblgaaGreatDoor
open Go.RowKit

theorem Stream.small {s : ByteArray} {t tend : Nat} {bytes : List Nat} (h : Stream s t bytes tend) : (∀ x ∈ bytes, x < 256) ∧ tend ≤ 8 * s.size := by
  induction h with
  | last t n h1 hb hk h4 hn hn' =>
    refine ⟨fun x hx => ?_, by omega⟩
    simp at hx
    obtain ⟨i, _, rfl⟩ := hx
    exact Bt.byteN_lt _ _
  | more t n rest tend h1 hb hk h4 hn hn' hr ih =>
    refine ⟨fun x hx => ?_, ih.2⟩
    rcases List.mem_append.1 hx with hx | hx
    · simp at hx
      obtain ⟨i, _, rfl⟩ := hx
      exact Bt.byteN_lt _ _
    · exact ih.1 x hx

theorem up_new (w : World) (r : Nat) (most : Int) : Up (w.alloc (.cells #[.pointer (some ⟨r, 0, none⟩), .slice none 0 0, .int .i64 most, .pointer none, .pointer none] 148)) w.heap.size r (.slice none 0 0) [] most none none := by
  refine ⟨?_, by simpa [bytesV] using World.ownsRow_nil _ _ _ _⟩
  show (w.heap.push _)[_]? = _
  simp

theorem conv_up {w : World} {ub r : Nat} {v : Value} {out : List Nat} {most : Int} {tl td : Option Addr} (h : Up w ub r v out most tl td) (hb : ∀ x ∈ out, x < 256) (w' : World) (hw : w'.heap = w.heap) : (convert 36 9 v).run Tryz.prog w' = .ok (.string (strOf out)) w' := by
  have hown : w'.ownsRow 0 5 1 v out.length (bytesV out) := by
    refine ⟨h.2.1, ?_⟩
    rcases h.2.2 with h0 | ⟨g, cap, cur, hv, hg, hh, rest⟩
    · exact .inl h0
    · exact .inr ⟨g, cap, cur, hv, hg, by rw [hw]; exact hh, rest⟩
  rcases hown.2 with ⟨rfl, hz⟩ | ⟨g, cap, cur, rfl, _, hh, hle, _⟩
  · have hcv := run_convert_bytes_nil (P := Tryz.prog) w' 36 5 Tryz.underlying36 Tryz.underlying5 0 0 9 Tryz.underlying9
    have e : strOf out = ByteArray.empty := by
      rw [List.eq_nil_of_length_eq_zero (l := out) hz]
      rfl
    rw [e]
    exact hcv
  · have hc : ∀ j (hj : j < (out.map UInt8.ofNat).length), w'.cell? ((⟨g, 0, none⟩ : Addr).add j) = some (.int .u8 (((out.map UInt8.ofNat)[j]).toNat : Int)) := by
      intro j hj
      simp only [List.length_map] at hj
      refine hown.cells rfl j _ ?_
      have hlt := hb _ (List.getElem_mem hj)
      simp only [bytesV, List.getElem?_map, List.getElem?_eq_getElem hj, Option.map_some, List.getElem_map]
      rw [UInt8.toNat_ofNat_of_lt' (by simpa using hlt)]
    have hcv := run_convert_bytes_back (P := Tryz.prog) w' 36 9 5 ⟨g, 0, none⟩ cap (out.map UInt8.ofNat) Tryz.underlying36 Tryz.underlying5 Tryz.underlying9 hc
    rw [List.length_map] at hcv
    exact hcv

theorem results_ttc {P : Program} {fn : Func} {t u p : Tmp} {ty : TypeId} (h : fn.results = #[.tmp t, .tmp u, .cell p ty]) (tmps : Array Value) (w : World) (g : Nat) (et : TypeId) (cs : Array Value) (fr : Nat × Nat) (d : TypeDesc)
    (hp : tmps.getD p undef = .pointer (some ⟨g, 0, none⟩)) (hg : w.heap[g]? = some (.cells cs et fr))
    (hu : P.underlying ty = some d) (hd : (match d with | .struct _ | .array _ _ => true | _ => false) = true) (hi : (P.info? ty).map (·.size) = some cs.size) :
    (results fn tmps).run P w = .ok (.tuple #[tmps.getD t undef, tmps.getD u undef, .agg cs]) w := by
  have hp' : tmps[p]?.getD undef = .pointer (some ⟨g, 0, none⟩) := by simpa using hp
  simp [results, h, hp', asAddr, run_loadVar_row w g et ty cs fr d hg hu hd hi]

theorem place_val (fr tend : Nat) (h1 : fr ≤ 140737488351232) (h2 : tend ≤ 1125899906842624) : IntKind.i64.wrap ((fr : Int) + IntKind.i64.wrap ((IntKind.i64.wrap ((tend : Int) + 7)).tdiv 8)) = ((fr + (tend + 7) / 8 : Nat) : Int) := by
  rw [IntKind.wrap_i64, IntKind.wrap_i64, IntKind.wrap_i64]
  have e1 : ((tend : Int) + 7 + 9223372036854775808) % 18446744073709551616 - 9223372036854775808 = (tend : Int) + 7 := by omega
  rw [e1, Int.tdiv_eq_ediv_of_nonneg (by omega)]
  omega

set_option maxRecDepth 100000 in
set_option maxHeartbeats 4000000 in
theorem Unpack_stream (data : ByteArray) (fr : Nat) (most : Int) (bytes : List Nat) (tend : Nat) (w : World) (hd : data.size ≤ 140737488351232) (hf : fr ≤ data.size) (hS : Stream (data.extract fr data.size) 0 bytes tend) (hm0 : 0 ≤ most) (hm1 : most ≤ 9223372036854775807) (hroom : (bytes.length : Int) ≤ most) (hl : bytes.length ≤ 70368744177664) :
    Calls Tryz.prog 54 #[.string data, .int .i64 fr, .int .i64 most] w fun e w' => e = .returned (.tuple #[.string (strOf bytes), .int .i64 (fr + (tend + 7) / 8 : Nat), .agg #[.int .i64 0, .int .i64 0]]) ∧ Touch (fun _ => False) w w' := by
  have HS := hid hS
  obtain ⟨s, hs⟩ : ∃ s, s = data.extract fr data.size := ⟨_, rfl⟩
  have hss : s.size = data.size - fr := by rw [hs, ByteArray.size_extract]; omega
  rw [← hs] at HS
  have htend := HS.out.small.2
  clear hS
  go_enter Tryz.func54, Tryz.ntmps54
  go_wp2_with fail
  rw [← hs]
  clear hs
  refine (open_any _ _).mono ?_
  rintro e w1 ⟨rfl, rfl⟩
  have T0 := hid (((Touch.refl (fun _ => False) w).alloc (.cells #[.int .i64 0, .int .i64 0] 31)))
  have hw0 : w.heap.size < (w.alloc (.cells #[.int .i64 0, .int .i64 0] 31)).heap.size := by simp
  have fb0 : (w.alloc (.cells #[.int .i64 0, .int .i64 0] 31)).heap[w.heap.size]? = some (.cells #[.int .i64 0, .int .i64 0] 31 (0, 0)) := by
    show (w.heap.push _)[_]? = _
    simp
  generalize w.alloc (.cells #[.int .i64 0, .int .i64 0] 31) = wA at *
  have fb1 : (wA.alloc (.cells #[.string s, .int .i64 0] 161)).heap[w.heap.size]? = some (.cells #[.int .i64 0, .int .i64 0] 31 (0, 0)) := by rw [Below.heap_alloc _ _ _ hw0]; exact fb0
  have rd0 := rd_new wA s
  have T1 := hid (T0.out.alloc (.cells #[.string s, .int .i64 0] 161))
  have hw1 : wA.heap.size < (wA.alloc (.cells #[.string s, .int .i64 0] 161)).heap.size := by simp
  generalize hwB : wA.alloc (.cells #[.string s, .int .i64 0] 161) = wB at *
  clear hwB
  generalize wA.heap.size = r at *
  have fb2 : (wB.alloc (.cells #[.pointer (some ⟨r, 0, none⟩), .slice none 0 0, .int .i64 most, .pointer none, .pointer none] 148)).heap[w.heap.size]? = some (.cells #[.int .i64 0, .int .i64 0] 31 (0, 0)) := by rw [Below.heap_alloc _ _ _ (by omega)]; exact fb1
  have FB2 := hid fb2
  clear fb0 fb1 fb2
  have up0 := up_new wB r most
  have rd1 : Rd (wB.alloc (.cells #[.pointer (some ⟨r, 0, none⟩), .slice none 0 0, .int .i64 most, .pointer none, .pointer none] 148)) r s 0 := by
    unfold Rd at rd0 ⊢
    rw [Below.heap_alloc _ _ _ hw1]
    exact rd0
  have T2 := hid (T1.out.alloc (.cells #[.pointer (some ⟨r, 0, none⟩), .slice none 0 0, .int .i64 most, .pointer none, .pointer none] 148))
  have US := hid (unpack_stream wB.heap.size r _ most none none s 0 tend bytes _ up0 rd1 (by omega) HS.out hm0 hm1 hroom hl)
  clear up0 rd1 rd0
  go_wp2_with fail
  refine US.out.mono ?_
  rintro e w2 ⟨rfl, v', u2, r2, tc2, o2⟩
  have U2 := hid u2
  have R2 := hid r2
  have T3 := hid (T2.out.trans tc2 (fun k hk e => by
    rcases e with e | e | e
    · omega
    · omega
    · simp [Value.ownBlock] at e))
  have fb3 : w2.heap[w.heap.size]? = some (.cells #[.int .i64 0, .int .i64 0] 31 (0, 0)) := by
    rw [tc2.block _ (lt_of_block FB2.out) (fun e => by
      rcases e with e | e | e
      · omega
      · omega
      · simp [Value.ownBlock] at e)]
    exact FB2.out
  have g0 : w2.cell? ⟨w.heap.size, 0, none⟩ = some (.int .i64 0) := by simp [World.cell?, fb3]
  have g1 : w2.cell? ⟨w.heap.size, 1, none⟩ = some (.int .i64 0) := by simp [World.cell?, fb3]
  have gf0 : w2.frozen? ⟨w.heap.size, 0, none⟩ = false := by simp [World.frozen?, fb3]
  have gf1 : w2.frozen? ⟨w.heap.size, 1, none⟩ = false := by simp [World.frozen?, fb3]
  have FB3 := hid fb3
  clear fb3 FB2
  clear u2 r2 tc2 o2 US
  obtain ⟨av, cv, hav⟩ := up_shape U2.out
  have hcv : (convert 36 9 v').run Tryz.prog w2.drew = .ok (.string (strOf bytes)) w2.drew := conv_up U2.out HS.out.small.1 _ rfl
  have c0 := (up_cells U2.out).1
  have c1 := (up_cells U2.out).2.1
  subst hav
  obtain ⟨SS, hSS⟩ : ∃ SS, strOf bytes = SS := ⟨_, rfl⟩
  rw [hSS] at hcv
  have HSS := hid hSS
  clear hSS
  go_wp2_with fail
  clear T0 T1 T2
  have TK := hid (taken_any r s tend w2.drew R2.out)
  have HPV := hid (place_val fr tend (by omega) (by omega))
  go_region_with (go_at_call 71; refine TK.out.mono ?_; rintro e w3 ⟨rfl, rfl⟩)
  all_goals
    rw [HPV.out]
    go_wp2
    have hfb := two_set1 (x := .int .i64 0) (two_set0 (x := .int .i64 0) (w := w2.drew) FB3.out)
    (try simp only [Exit.inBlock, Exit.then])
    refine bodyPost_ret (results_ttc rfl _ _ w.heap.size 31 _ (0, 0) _ rfl hfb Tryz.underlying31 rfl (by kernel_rfl)) rfl ?_
    refine ⟨?_, ((T3.out.drew.setCell (fun h => absurd h (Nat.lt_irrefl _)) _).setCell (fun h => absurd h (Nat.lt_irrefl _)) _)⟩
    rw [HSS.out]
    rfl
end Go.Proofs.YtffjkceedbblgaaGreatDoor

/- New where there is something wrong with the lengths. -/
namespace Go.Proofs.YtffjkceedbblgaaGreatDoor
open Go.RowKit

theorem new_big (a : Option Addr) (len cap : Nat) (w : World) (hl : 1024 < len) (hb : len ≤ 140737488351232) :
    Calls Tryz.prog 56 #[.slice a len cap] w fun e w' => e = .returned (.tuple #[.pointer none, .int .i64 1]) ∧ w' = w := by
  go_enter Tryz.func56, Tryz.ntmps56
  go_wp2
  go_ret2
  exact ⟨rfl, rfl⟩

/-- Counted so far, nought among them. -/
def cnts (f : Nat → Nat) (k j : Nat) : Nat := cntTo f j k

theorem cnts_step (f : Nat → Nat) (k j : Nat) : (if j = f k then cnts f k (f k) + 1 else cnts f k j) = cnts f (k + 1) j := by
  unfold cnts
  by_cases e : j = f k
  · subst e; rw [if_pos rfl, cntTo, if_pos rfl]
  · rw [if_neg e, cntTo, if_neg (fun h => e h.symm), Nat.add_zero]

theorem blk_zero (w : World) : Blk (w.alloc (.cells #[.int .i64 0, .int .i64 0, .int .i64 0, .int .i64 0, .int .i64 0, .int .i64 0, .int .i64 0, .int .i64 0, .int .i64 0, .int .i64 0, .int .i64 0, .int .i64 0, .int .i64 0, .int .i64 0, .int .i64 0, .int .i64 0] 150)) w.heap.size (fun _ => 0) := blk_new w (fun _ => 0)

set_option maxRecDepth 100000 in
set_option maxHeartbeats 4000000 in
theorem new_bad (a : Option Addr) (len cap m : Nat) (g : Nat → Int) (f : Nat → Nat) (w : World) (hl : len ≤ 1024) (hf : ∀ i, f i ≤ 15) (hi : Ints w a len g) (hm : m < len) (hg : ∀ i, i < m → g i = (f i : Nat)) (hbad : g m < 0 ∨ 15 < g m) :
    Calls Tryz.prog 56 #[.slice a len cap] w fun e w' => e = .returned (.tuple #[.pointer none, .int .i64 1]) ∧ Touch (fun _ => False) w w' := by
  have HF := hid hf
  have HI := hid hi
  have HG := hid hg
  have HB := hid hbad
  clear hf hi hg hbad
  go_enter Tryz.func56, Tryz.ntmps56
  go_wp2_with fail
  go_loopw [16] (fun i wr => ∃ k : Nat, k ≤ m ∧ i = .int .i64 k ∧ Blk wr w.heap.size (cnts f k) ∧ Touch (fun _ => False) w wr) (fun i _ => m - (intOf i).toNat)
  case atStart => exact ⟨0, Nat.zero_le _, rfl, blk_zero w, (Touch.refl _ w).alloc _⟩
  case round =>
    obtain ⟨k, hk, rfl, hb1, ht⟩ := hrel
    have Z := hid hb1
    have TT := hid ht
    clear hb1 ht
    have hkl : k < len := by omega
    rcases (HI.out.new TT.out) with h | ⟨b, o, ha, hb, hcell⟩
    · omega
    · subst ha
      by_cases hlt : k < m
      · have d0 : wr.cell? ⟨b, o + k, none⟩ = some (.int .i64 (f k : Nat)) := by rw [hcell k hkl, HG.out k hlt]
        have hfk := HF.out k
        have d1 := Z.out.cell (f k) (by omega)
        have d2 := Z.out.free (f k)
        have hcn : cnts f k (f k) ≤ 1024 := by have := cntTo_le f (f k) k; unfold cnts; omega
        have hst := hid ((Z.out.set (f k) (cnts f k (f k) + 1)).ext (fun j _ => cnts_step f k j))
        generalize cnts f k (f k) = x at *
        clear hcell
        go_wp2
        go_roundw
        case rel => exact ⟨k + 1, by omega, by go_num, by have := hst.out; simpa using this, TT.out.setCell (fun h => by simp at h) _⟩
        case measure => simp [intOf]; omega
      · obtain rfl : k = m := by omega
        have d0 : wr.cell? ⟨b, o + k, none⟩ = some (.int .i64 (g k)) := hcell k hkl
        clear hcell
        have hB := HB.out
        generalize g k = x at *
        by_cases hn : x < 0
        · go_wp2
          go_ret2
          exact ⟨rfl, TT.out⟩
        · have hp : 15 < x := by omega
          go_wp2
          go_ret2
          exact ⟨rfl, TT.out⟩
end Go.Proofs.YtffjkceedbblgaaGreatDoor

/- New where the lengths take too much room, or too little. -/
namespace Go.Proofs.YtffjkceedbblgaaGreatDoor
open Go.RowKit

theorem cnts_cOf (f : Nat → Nat) (k j : Nat) : (if j = 0 then 0 else cnts f k j) = cOf f k j := by unfold cnts cOf; rfl

set_option maxRecDepth 100000 in
set_option maxHeartbeats 4000000 in
theorem new_err (a : Option Addr) (len cap : Nat) (f : Nat → Nat) (w : World) (hl : len ≤ 1024) (hf : ∀ i, f i ≤ 15) (hi : Ints w a len (fun i => (f i : Nat))) (he : errOf f len ≠ 0) :
    Calls Tryz.prog 56 #[.slice a len cap] w fun e w' => e = .returned (.tuple #[.pointer none, .int .i64 (errOf f len : Nat)]) ∧ Touch (fun _ => False) w w' := by
  have HF := hid hf
  have HI := hid hi
  have HE := hid he
  clear hf hi he
  go_enter Tryz.func56, Tryz.ntmps56
  go_wp2_with fail
  go_loopw [16] (fun i wr => ∃ k : Nat, k ≤ len ∧ i = .int .i64 k ∧ Blk wr w.heap.size (cnts f k) ∧ Touch (fun _ => False) w wr) (fun i _ => len - (intOf i).toNat)
  case atStart => exact ⟨0, Nat.zero_le _, rfl, blk_zero w, (Touch.refl _ w).alloc _⟩
  case round =>
    obtain ⟨k, hk, rfl, hb1, ht⟩ := hrel
    have Z := hid hb1
    have TT := hid ht
    clear hb1 ht
    by_cases hlt : k < len
    · rcases (HI.out.new TT.out) with h | ⟨b, o, ha, hb, hcell⟩
      · omega
      · subst ha
        have d0 : wr.cell? ⟨b, o + k, none⟩ = some (.int .i64 (f k : Nat)) := hcell k hlt
        have hfk := HF.out k
        have d1 := Z.out.cell (f k) (by omega)
        have d2 := Z.out.free (f k)
        have hcn : cnts f k (f k) ≤ 1024 := by have := cntTo_le f (f k) k; unfold cnts; omega
        have hst := hid ((Z.out.set (f k) (cnts f k (f k) + 1)).ext (fun j _ => cnts_step f k j))
        generalize cnts f k (f k) = x at *
        clear hcell
        go_wp2
        go_roundw
        case rel => exact ⟨k + 1, by omega, by go_num, by have := hst.out; simpa using this, TT.out.setCell (fun h => by simp at h) _⟩
        case measure => simp [intOf]; omega
    · obtain rfl : k = len := by omega
      have d2 := Z.out.free 0
      have c0 := Z.out.cell 0 (by decide)
      have c1 := Z.out.cell 1 (by decide)
      have c2 := Z.out.cell 2 (by decide)
      have c3 := Z.out.cell 3 (by decide)
      have c4 := Z.out.cell 4 (by decide)
      have c5 := Z.out.cell 5 (by decide)
      have c6 := Z.out.cell 6 (by decide)
      have c7 := Z.out.cell 7 (by decide)
      have c8 := Z.out.cell 8 (by decide)
      have c9 := Z.out.cell 9 (by decide)
      have c10 := Z.out.cell 10 (by decide)
      have c11 := Z.out.cell 11 (by decide)
      have c12 := Z.out.cell 12 (by decide)
      have c13 := Z.out.cell 13 (by decide)
      have c14 := Z.out.cell 14 (by decide)
      have c15 := Z.out.cell 15 (by decide)
      have hst := hid ((Z.out.set 0 0).ext (fun j _ => cnts_cOf f k j))
      have hnx : ¬ (k : Int) < (k : Int) := by omega
      have hA : cArr (cOf f k) = #[.int .i64 0, .int .i64 (cnts f k 1 : Nat), .int .i64 (cnts f k 2 : Nat), .int .i64 (cnts f k 3 : Nat), .int .i64 (cnts f k 4 : Nat), .int .i64 (cnts f k 5 : Nat), .int .i64 (cnts f k 6 : Nat), .int .i64 (cnts f k 7 : Nat), .int .i64 (cnts f k 8 : Nat), .int .i64 (cnts f k 9 : Nat), .int .i64 (cnts f k 10 : Nat), .int .i64 (cnts f k 11 : Nat), .int .i64 (cnts f k 12 : Nat), .int .i64 (cnts f k 13 : Nat), .int .i64 (cnts f k 14 : Nat), .int .i64 (cnts f k 15 : Nat)] := by simp [cArr, cOf, cnts]
      have HA := hid hA
      clear hA
      go_wp2_with fail
      rw [← HA.out]
      refine (room_any (cOf f k) _ (fun i => by have := cOf_le f k i; omega)).mono ?_
      rintro e w1 ⟨rfl, ht⟩
      rw [err_eq f HF.out k]
      have hne : ((errOf f k : Int) == 0) = false := by have := HE.out; simp; omega
      have T1 := hid ((TT.out.setCell (p := ⟨w.heap.size, 0, none⟩) (fun h => by simp at h) (.int .i64 0)).trans ht (fun _ _ e => e))
      clear ht
      obtain ⟨er, her⟩ : ∃ er, errOf f k = er := ⟨_, rfl⟩
      rw [her] at hne ⊢
      have HER := hid her
      clear her
      generalize cArr (cOf f k) = A at *
      go_wp2
      go_ret2
      exact ⟨by rw [HER.out]; rfl, T1.out⟩
end Go.Proofs.YtffjkceedbblgaaGreatDoor
