/- Unpack of stored blocks; conditions: they are whole, and there is room. -/
import Derived.Test.YtokelpnmeknncabUs
import Derived.Deep.RegionWith
import Derived.BigRegion
import Derived.OwnWalk
import Derived.Laws.Rows
namespace Go.Proofs.Ytokelpnmeknncab
open Go.RowKit

theorem Stream.small {s : ByteArray} {t tend : Nat} {bytes : List Nat} (h : Stream s t bytes tend) : (∀ x ∈ bytes, x < 256) ∧ tend ≤ 8 * s.size := by
  induction h with
  | last t n h1 hb hk h4 hn hn' =>
    refine ⟨fun x hx => ?_, by omega⟩
    simp at hx
    obtain ⟨i, _, rfl⟩ := hx
    exact Bt.byteN_lt _ _
  | more t n rest tend h1 hb hk h4 hn hn' hr ih =>
    refine ⟨fun x hx => ?_, ih.2⟩
    rcases List.mem_append.1 hx with hx | hx
    · simp at hx
      obtain ⟨i, _, rfl⟩ := hx
      exact Bt.byteN_lt _ _
    · exact ih.1 x hx

theorem up_new (w : World) (r : Nat) (most : Int) : Up (w.alloc (.cells #[.pointer (some ⟨r, 0, none⟩), .slice none 0 0, .int .i64 most, .pointer none, .pointer none] 76)) w.heap.size r (.slice none 0 0) [] most none none := by
  refine ⟨?_, by simpa [bytesV] using World.ownsRow_nil _ _ _ _⟩
  show (w.heap.push _)[_]? = _
  simp

theorem conv_up {w : World} {ub r : Nat} {v : Value} {out : List Nat} {most : Int} {tl td : Option Addr} (h : Up w ub r v out most tl td) (hb : ∀ x ∈ out, x < 256) (w' : World) (hw : w'.heap = w.heap) : (convert 28 9 v).run Try.prog w' = .ok (.string (strOf out)) w' := by
  have hown : w'.ownsRow 0 5 1 v out.length (bytesV out) := by
    refine ⟨h.2.1, ?_⟩
    rcases h.2.2 with h0 | ⟨g, cap, cur, hv, hg, hh, rest⟩
    · exact .inl h0
    · exact .inr ⟨g, cap, cur, hv, hg, by rw [hw]; exact hh, rest⟩
  rcases hown.2 with ⟨rfl, hz⟩ | ⟨g, cap, cur, rfl, _, hh, hle, _⟩
  · have hcv := run_convert_bytes_nil (P := Try.prog) w' 28 5 Try.underlying28 Try.underlying5 0 0 9 Try.underlying9
    have e : strOf out = ByteArray.empty := by
      rw [List.eq_nil_of_length_eq_zero (l := out) hz]
      rfl
    rw [e]
    exact hcv
  · have hc : ∀ j (hj : j < (out.map UInt8.ofNat).length), w'.cell? ((⟨g, 0, none⟩ : Addr).add j) = some (.int .u8 (((out.map UInt8.ofNat)[j]).toNat : Int)) := by
      intro j hj
      simp only [List.length_map] at hj
      refine hown.cells rfl j _ ?_
      have hlt := hb _ (List.getElem_mem hj)
      simp only [bytesV, List.getElem?_map, List.getElem?_eq_getElem hj, Option.map_some, List.getElem_map]
      rw [UInt8.toNat_ofNat_of_lt' (by simpa using hlt)]
    have hcv := run_convert_bytes_back (P := Try.prog) w' 28 9 5 ⟨g, 0, none⟩ cap (out.map UInt8.ofNat) Try.underlying28 Try.underlying5 Try.underlying9 hc
    rw [List.length_map] at hcv
    exact hcv

theorem results_ttc {P : Program} {fn : Func} {t u p : Tmp} {ty : TypeId} (h : fn.results = #[.tmp t, .tmp u, .cell p ty]) (tmps : Array Value) (w : World) (g : Nat) (et : TypeId) (cs : Array Value) (fr : Nat × Nat) (d : TypeDesc)
    (hp : tmps.getD p undef = .pointer (some ⟨g, 0, none⟩)) (hg : w.heap[g]? = some (.cells cs et fr))
    (hu : P.underlying ty = some d) (hd : (match d with | .struct _ | .array _ _ => true | _ => false) = true) (hi : (P.info? ty).map (·.size) = some cs.size) :
    (results fn tmps).run P w = .ok (.tuple #[tmps.getD t undef, tmps.getD u undef, .agg cs]) w := by
  have hp' : tmps[p]?.getD undef = .pointer (some ⟨g, 0, none⟩) := by simpa using hp
  simp [results, h, hp', asAddr, run_loadVar_row w g et ty cs fr d hg hu hd hi]

theorem place_val (fr tend : Nat) (h1 : fr ≤ 140737488351232) (h2 : tend ≤ 1125899906842624) : IntKind.i64.wrap ((fr : Int) + IntKind.i64.wrap ((IntKind.i64.wrap ((tend : Int) + 7)).tdiv 8)) = ((fr + (tend + 7) / 8 : Nat) : Int) := by
  rw [IntKind.wrap_i64, IntKind.wrap_i64, IntKind.wrap_i64]
  have e1 : ((tend : Int) + 7 + 9223372036854775808) % 18446744073709551616 - 9223372036854775808 = (tend : Int) + 7 := by omega
  rw [e1, Int.tdiv_eq_ediv_of_nonneg (by omega)]
  omega

set_option maxRecDepth 100000 in
set_option maxHeartbeats 4000000 in
theorem Unpack_stream (data : ByteArray) (fr : Nat) (most : Int) (bytes : List Nat) (tend : Nat) (w : World) (hd : data.size ≤ 140737488351232) (hf : fr ≤ data.size) (hS : Stream (data.extract fr data.size) 0 bytes tend) (hm0 : 0 ≤ most) (hm1 : most ≤ 9223372036854775807) (hroom : (bytes.length : Int) ≤ most) (hl : bytes.length ≤ 70368744177664) :
    Calls Try.prog 20 #[.string data, .int .i64 fr, .int .i64 most] w fun e w' => e = .returned (.tuple #[.string (strOf bytes), .int .i64 (fr + (tend + 7) / 8 : Nat), .agg #[.int .i64 0, .int .i64 0]]) ∧ Touch (fun _ => False) w w' := by
  have HS := hid hS
  obtain ⟨s, hs⟩ : ∃ s, s = data.extract fr data.size := ⟨_, rfl⟩
  have hss : s.size = data.size - fr := by rw [hs, ByteArray.size_extract]; omega
  rw [← hs] at HS
  have htend := HS.out.small.2
  clear hS
  go_enter Try.func20, Try.ntmps20
  go_wp2_with fail
  rw [← hs]
  clear hs
  refine (open_any _ _).mono ?_
  rintro e w1 ⟨rfl, rfl⟩
  have T0 := hid (((Touch.refl (fun _ => False) w).alloc (.cells #[.int .i64 0, .int .i64 0] 43)))
  have hw0 : w.heap.size < (w.alloc (.cells #[.int .i64 0, .int .i64 0] 43)).heap.size := by simp
  have fb0 : (w.alloc (.cells #[.int .i64 0, .int .i64 0] 43)).heap[w.heap.size]? = some (.cells #[.int .i64 0, .int .i64 0] 43 (0, 0)) := by
    show (w.heap.push _)[_]? = _
    simp
  generalize w.alloc (.cells #[.int .i64 0, .int .i64 0] 43) = wA at *
  have fb1 : (wA.alloc (.cells #[.string s, .int .i64 0] 65)).heap[w.heap.size]? = some (.cells #[.int .i64 0, .int .i64 0] 43 (0, 0)) := by rw [Below.heap_alloc _ _ _ hw0]; exact fb0
  have rd0 := rd_new wA s
  have T1 := hid (T0.out.alloc (.cells #[.string s, .int .i64 0] 65))
  have hw1 : wA.heap.size < (wA.alloc (.cells #[.string s, .int .i64 0] 65)).heap.size := by simp
  generalize hwB : wA.alloc (.cells #[.string s, .int .i64 0] 65) = wB at *
  clear hwB
  generalize wA.heap.size = r at *
  have fb2 : (wB.alloc (.cells #[.pointer (some ⟨r, 0, none⟩), .slice none 0 0, .int .i64 most, .pointer none, .pointer none] 76)).heap[w.heap.size]? = some (.cells #[.int .i64 0, .int .i64 0] 43 (0, 0)) := by rw [Below.heap_alloc _ _ _ (by omega)]; exact fb1
  have FB2 := hid fb2
  clear fb0 fb1 fb2
  have up0 := up_new wB r most
  have rd1 : Rd (wB.alloc (.cells #[.pointer (some ⟨r, 0, none⟩), .slice none 0 0, .int .i64 most, .pointer none, .pointer none] 76)) r s 0 := by
    unfold Rd at rd0 ⊢
    rw [Below.heap_alloc _ _ _ hw1]
    exact rd0
  have T2 := hid (T1.out.alloc (.cells #[.pointer (some ⟨r, 0, none⟩), .slice none 0 0, .int .i64 most, .pointer none, .pointer none] 76))
  have US := hid (unpack_stream wB.heap.size r _ most none none s 0 tend bytes _ up0 rd1 (by omega) HS.out hm0 hm1 hroom hl)
  clear up0 rd1 rd0
  go_wp2_with fail
  refine US.out.mono ?_
  rintro e w2 ⟨rfl, v', u2, r2, tc2, o2⟩
  have U2 := hid u2
  have R2 := hid r2
  have T3 := hid (T2.out.trans tc2 (fun k hk e => by
    rcases e with e | e | e
    · omega
    · omega
    · simp [Value.ownBlock] at e))
  have fb3 : w2.heap[w.heap.size]? = some (.cells #[.int .i64 0, .int .i64 0] 43 (0, 0)) := by
    rw [tc2.block _ (lt_of_block FB2.out) (fun e => by
      rcases e with e | e | e
      · omega
      · omega
      · simp [Value.ownBlock] at e)]
    exact FB2.out
  have g0 : w2.cell? ⟨w.heap.size, 0, none⟩ = some (.int .i64 0) := by simp [World.cell?, fb3]
  have g1 : w2.cell? ⟨w.heap.size, 1, none⟩ = some (.int .i64 0) := by simp [World.cell?, fb3]
  have gf0 : w2.frozen? ⟨w.heap.size, 0, none⟩ = false := by simp [World.frozen?, fb3]
  have gf1 : w2.frozen? ⟨w.heap.size, 1, none⟩ = false := by simp [World.frozen?, fb3]
  have FB3 := hid fb3
  clear fb3 FB2
  clear u2 r2 tc2 o2 US
  obtain ⟨av, cv, hav⟩ := up_shape U2.out
  have hcv : (convert 28 9 v').run Try.prog w2.drew = .ok (.string (strOf bytes)) w2.drew := conv_up U2.out HS.out.small.1 _ rfl
  have c0 := (up_cells U2.out).1
  have c1 := (up_cells U2.out).2.1
  subst hav
  obtain ⟨SS, hSS⟩ : ∃ SS, strOf bytes = SS := ⟨_, rfl⟩
  rw [hSS] at hcv
  have HSS := hid hSS
  clear hSS
  go_wp2_with fail
  clear T0 T1 T2
  have TK := hid (taken_any r s tend w2.drew R2.out)
  have HPV := hid (place_val fr tend (by omega) (by omega))
  go_region_with (go_at_call 33; refine TK.out.mono ?_; rintro e w3 ⟨rfl, rfl⟩)
  all_goals
    rw [HPV.out]
    go_wp2
    have hfb := two_set1 (x := .int .i64 0) (two_set0 (x := .int .i64 0) (w := w2.drew) FB3.out)
    (try simp only [Exit.inBlock, Exit.then])
    refine bodyPost_ret (results_ttc rfl _ _ w.heap.size 43 _ (0, 0) _ rfl hfb Try.underlying43 rfl (by kernel_rfl)) rfl ?_
    refine ⟨?_, ((T3.out.drew.setCell (fun h => absurd h (Nat.lt_irrefl _)) _).setCell (fun h => absurd h (Nat.lt_irrefl _)) _)⟩
    rw [HSS.out]
    rfl
end Go.Proofs.Ytokelpnmeknncab
