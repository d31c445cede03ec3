/- A stored block is unpacked; conditions: it is whole, and there is room. -/
import Derived.Test.YtokelpnmeknncabUp
import Derived.Test.YtokelpnmeknncabWby
import Derived.Test.YtokelpnmeknncabWmath
namespace Go.Proofs.Ytokelpnmeknncab
open Go.RowKit Go.Lib

theorem flip16 (n : Nat) (h : n < 65536) : n ^^^ 65535 = 65535 - n := by
  have h1 : (BitVec.ofNat 16 n ^^^ BitVec.allOnes 16) = ~~~ (BitVec.ofNat 16 n) := BitVec.xor_allOnes
  have h2 := congrArg BitVec.toNat h1
  rw [BitVec.toNat_xor, BitVec.toNat_not, BitVec.toNat_ofNat, BitVec.toNat_allOnes, Nat.mod_eq_of_lt (by omega)] at h2
  exact h2

theorem i64_flip (n : Nat) (h : n < 65536) : bits .xor .i64 (n : Int) 65535 = ((65535 - n : Nat) : Int) := by
  have e := flip16 n h
  have ha : n % 2 ^ 64 = n := Nat.mod_eq_of_lt (by omega)
  have hb : 65535 % 2 ^ 64 = 65535 := by decide
  show IntKind.i64.wrap ((BitVec.ofInt 64 (n : Int) ^^^ BitVec.ofInt 64 65535).toNat : Nat) = _
  rw [show (65535 : Int) = ((65535 : Nat) : Int) by rfl, BitVec.ofInt_natCast, BitVec.ofInt_natCast, BitVec.toNat_xor, BitVec.toNat_ofNat, BitVec.toNat_ofNat, ha, hb, e]
  exact wraps_i64 _ (by omega) (by omega)

theorem up_own {w : World} {ub r : Nat} {v : Value} {out : List Nat} {most : Int} {tl td : Option Addr} {s : ByteArray} {t : Nat} (h : Up w ub r v out most tl td) (hr : Rd w r s t) : ub ≠ r ∧ v.ownBlock ≠ some r ∧ v.ownBlock ≠ some ub := by
  unfold Rd at hr
  refine ⟨?_, ?_, ?_⟩
  · rintro rfl
    have := h.1
    rw [hr] at this
    simp at this
  · intro e
    rcases h.2.2 with ⟨rfl, _⟩ | ⟨g, cap, cur, rfl, _, hh, _⟩
    · simp [Value.ownBlock] at e
    · simp [Value.ownBlock] at e
      subst e
      rw [hr] at hh
      simp at hh
  · intro e
    rcases h.2.2 with ⟨rfl, _⟩ | ⟨g, cap, cur, rfl, _, hh, _⟩
    · simp [Value.ownBlock] at e
    · simp [Value.ownBlock] at e
      subst e
      rw [h.1] at hh
      simp at hh

theorem Up.reads {w w' : World} {ub r : Nat} {v : Value} {out : List Nat} {most : Int} {tl td : Option Addr} {s : ByteArray} {t : Nat} (h : Up w ub r v out most tl td) (hr : Rd w r s t) (ht : Touch (fun k => k = r) w w') : Up w' ub r v out most tl td := by
  obtain ⟨h1, h2, h3⟩ := up_own h hr
  refine ⟨(ht.block ub (lt_of_block h.1) h1).trans h.1, h.2.1, ?_⟩
  rcases h.2.2 with h0 | ⟨g, cap, cur, hv, hg, hh, rest⟩
  · exact .inl h0
  · exact .inr ⟨g, cap, cur, hv, hg, (ht.block g (lt_of_block hh) (fun e => h2 (by rw [hv, ← e]; rfl))).trans hh, rest⟩

theorem i64_flip' (n : Nat) (h : n < 65536) : bits .xor .i64 (n : Int) 65535 = 65535 - (n : Int) := by
  rw [i64_flip n h]
  omega

theorem strCells_eq (s : ByteArray) : strCells s = bytesV (Bt.strNats s) := by
  unfold strCells bytesV Bt.strNats
  rw [List.map_map]
  apply List.ext_getElem
  · simp
  · intro i h1 h2
    have hi : i < s.data.size := by simpa using h1
    simp only [List.getElem_map, List.getElem_range, Function.comp_def, Array.getElem_toList, Bt.byteN, Array.getD]
    rw [dif_pos hi]
    rfl

theorem nats_extract (s : ByteArray) (p n : Nat) (h : p + n ≤ s.size) : Bt.strNats (s.extract p (p + n)) = (List.range n).map fun i => Bt.byteN s (p + i) := by
  unfold Bt.strNats
  rw [ByteArray.size_extract, show min (p + n) s.size - p = n by omega]
  apply List.map_congr_left
  intro i hi
  have hi' : i < n := by simpa using hi
  rw [← byte_get (s.extract p (p + n)) i (by rw [ByteArray.size_extract]; omega), ← byte_get s (p + i) (by omega), ByteArray.getElem_extract]

theorem up_new_out {w w1 : World} {ub r : Nat} {v v' : Value} {out out' : List Nat} {most : Int} {tl td : Option Addr} {s : ByteArray} {t : Nat} (h : Up w ub r v out most tl td) (hr : Rd w r s t) (hg : w.grownBy w1 v.ownBlock) (hown : w1.ownsRow 0 5 1 v' out'.length (bytesV out'))
    (hwhere : v'.ownBlock = v.ownBlock ∨ ∃ g, v'.ownBlock = some g ∧ w.heap.size ≤ g) :
    Up (w1.setCell ⟨ub, 1, none⟩ v') ub r v' out' most tl td ∧ Rd (w1.setCell ⟨ub, 1, none⟩ v') r s t ∧ Touch (fun k => k = ub ∨ v.ownBlock = some k) w (w1.setCell ⟨ub, 1, none⟩ v') := by
  obtain ⟨h1, h2, h3⟩ := up_own h hr
  have hub := lt_of_block h.1
  have hrlt := hr.lt
  have hb1 : w1.heap[ub]? = some (.cells #[.pointer (some ⟨r, 0, none⟩), v, .int .i64 most, .pointer tl, .pointer td] 76 (0, 0)) := by rw [hg.block ub hub (fun e => h3 e.symm)]; exact h.1
  have hvu : v'.ownBlock ≠ some ub := by
    rcases hwhere with e | ⟨g, e, hge⟩
    · rw [e]; exact h3
    · rw [e]; intro e2; simp at e2; omega
  have hlt1 := lt_of_block hb1
  have hb2 : (w1.setCell ⟨ub, 1, none⟩ v').heap[ub]? = some (.cells #[.pointer (some ⟨r, 0, none⟩), v', .int .i64 most, .pointer tl, .pointer td] 76 (0, 0)) := by
    have h' : w1.heap[ub] = .cells #[.pointer (some ⟨r, 0, none⟩), v, .int .i64 most, .pointer tl, .pointer td] 76 (0, 0) := by simpa [Array.getElem?_eq_getElem hlt1] using hb1
    show (w1.heap.modify ub _)[ub]? = _
    rw [Array.getElem?_eq_getElem (by simpa using hlt1), Array.getElem_modify_self, h']
    rfl
  refine ⟨⟨hb2, ownsRow_setCell_other hown hvu _⟩, ?_, ?_⟩
  · unfold Rd at hr ⊢
    rw [Below.heap_setCell _ _ _ _ (fun e => h1 e.symm), hg.block r hrlt (fun e => h2 e.symm)]
    exact hr
  · exact ((Touch.refl _ w).grown hg (fun k e _ => .inr e)).setCell (fun _ => .inl rfl) _

set_option maxRecDepth 100000 in
set_option maxHeartbeats 4000000 in
theorem stored_yes (ub r : Nat) (v : Value) (out : List Nat) (most : Int) (tl td : Option Addr) (s : ByteArray) (t p n : Nat) (w : World) (h : Up w ub r v out most tl td) (hr : Rd w r s t) (hs : s.size ≤ 140737488351232) (ht : t ≤ 8 * s.size)
    (hp : (t + 7) / 8 = p) (h4 : p + 4 + n ≤ s.size) (hn : Bt.byteN s p + 256 * Bt.byteN s (p + 1) = n) (hn' : Bt.byteN s (p + 2) + 256 * Bt.byteN s (p + 3) = 65535 - n) (hm0 : 0 ≤ most) (hm1 : most ≤ 9223372036854775807) (hroom : (n : Int) ≤ most - out.length) (hl : out.length ≤ 70368744177664) :
    Calls Try.prog 49 #[.pointer (some ⟨ub, 0, none⟩)] w fun e w' => e = .returned (.int .i64 0) ∧ ∃ v', Up w' ub r v' (out ++ (List.range n).map fun i => Bt.byteN s (p + 4 + i)) most tl td ∧ Rd w' r s (8 * (p + 4 + n)) ∧
      Touch (fun k => k = r ∨ k = ub ∨ v.ownBlock = some k) w w' ∧ (v'.ownBlock = v.ownBlock ∨ ∃ g, v'.ownBlock = some g ∧ w.heap.size ≤ g) := by
  have hn16 : n < 65536 := by have := Bt.byteN_lt s p; have := Bt.byteN_lt s (p + 1); omega
  have T1 := hid (twoBytes_yes ub r v out most tl td s t w h hr hs ht (by omega))
  rw [hp, hn] at T1
  have HU := hid h
  have HR := hid hr
  go_enter Try.func49, Try.ntmps49
  clear h hr
  go_wp2_with fail
  refine T1.out.mono ?_
  rintro e w1 ⟨rfl, hst⟩
  have R1 := hid hst
  have U1 := hid (HU.out.reads HR.out hst.touch)
  clear hst T1
  have T2 := hid (twoBytes_yes ub r v out most tl td s (8 * (p + 2)) w1 U1.out R1.out.rd hs (by omega) (by omega))
  rw [show (8 * (p + 2) + 7) / 8 = p + 2 by omega, show p + 2 + 1 = p + 3 by omega, hn', show 8 * (p + 2 + 2) = 8 * (p + 4) by omega] at T2
  have hflip := i64_flip' n hn16
  go_wp2_with fail
  refine T2.out.mono ?_
  rintro e w2 ⟨rfl, hst⟩
  have U2 := hid (U1.out.reads R1.out.rd hst.touch)
  have R2 := hid (R1.out.trans hst)
  clear hst T2 U1 R1
  rw [show ((65535 - n : Nat) : Int) = 65535 - (n : Int) by omega]
  have HRM := hid (hasRoom_any ub r v out most tl td n w2 U2.out hm0 hm1 (by omega))
  have hdec : decide ((n : Int) ≤ most - (out.length : Int)) = true := decide_eq_true hroom
  rw [hdec] at HRM
  clear hdec
  go_wp2_with fail
  refine HRM.out.mono ?_
  rintro e w3 ⟨rfl, hst⟩
  have U3 := hid (U2.out.reads R2.out.rd (hst.touch _))
  have R3 := hid (R2.out.trans (hst.rstep R2.out.rd))
  clear hst HRM U2 R2
  have RB := hid (rbytes_yes r s (8 * (p + 4)) n w3 R3.out.rd (by omega) (by omega) (by omega))
  rw [show (8 * (p + 4) + 7) / 8 = p + 4 by omega] at RB
  obtain ⟨x, hx⟩ : ∃ x, x = s.extract (p + 4) (p + 4 + n) := ⟨_, rfl⟩
  have hxs : x.size = n := by rw [hx, ByteArray.size_extract]; omega
  have hxn : Bt.strNats x = (List.range n).map fun i => Bt.byteN s (p + 4 + i) := by rw [hx]; exact nats_extract s (p + 4) n h4
  rw [← hx] at RB
  have HXN := hid hxn
  clear hx hxn
  have c3 := (up_cells U3.out).1
  go_wp2_with fail
  refine RB.out.mono ?_
  rintro e w4 ⟨rfl, hst⟩
  have U4 := hid (U3.out.reads R3.out.rd hst.touch)
  have R4 := hid (R3.out.trans hst)
  clear hst RB c3 U3 R3
  obtain ⟨av, cv, hav⟩ := up_shape U4.out
  have c4 := (up_cells U4.out).2.1
  have f4 : w4.frozen? ⟨ub, 1, none⟩ = false := by simp [World.frozen?, U4.out.1]
  obtain ⟨i0, hin, hz0, hz1, hz2⟩ := info_parts Try.info5
  subst hav
  go_wp2_with (first
    | (at_builtin; refine wpList_append_string_at _ rfl _ _ 28 9 rfl 5 i0 Try.underlying28 Try.underlying9 hin hz0 hz1 hz2 _ _ _ rfl U4.out.2 x rfl (by unfold maxLen; omega) (by omega) ?_))
  intro v' w5 hown hgrow hwh
  rw [strCells_eq, HXN.out] at hown
  have hown' : w5.ownsRow 0 5 1 v' (out ++ (List.range n).map fun i => Bt.byteN s (p + 4 + i)).length (bytesV (out ++ (List.range n).map fun i => Bt.byteN s (p + 4 + i))) := by
    rw [List.length_append, List.length_map, List.length_range]
    unfold bytesV at hown ⊢
    rw [List.map_append]
    exact hown
  have hfin := up_new_out U4.out R4.out.rd hgrow hown' hwh
  have hub := lt_of_block U4.out.1
  have hb5 : w5.heap[ub]? = some (.cells #[.pointer (some ⟨r, 0, none⟩), .slice av out.length cv, .int .i64 most, .pointer tl, .pointer td] 76 (0, 0)) := by
    rw [hgrow.block ub hub (fun e => (up_own U4.out R4.out.rd).2.2 e.symm)]
    exact U4.out.1
  have k5 : w5.cell? ⟨ub, 1, none⟩ = some (.slice av out.length cv) := by simp [World.cell?, hb5]
  have f5 : w5.frozen? ⟨ub, 1, none⟩ = false := by simp [World.frozen?, hb5]
  obtain ⟨a5, L5, c5, hv5⟩ : ∃ a5 L5 c5, v' = .slice a5 L5 c5 := by
    obtain ⟨a5, c5, e⟩ := up_shape hfin.1
    exact ⟨a5, _, c5, e⟩
  subst hv5
  have HFIN := hid hfin
  have HWH := hid hwh
  have TR := hid R4.out.touch
  clear hown hown' hgrow hwh hfin hb5
  go_wp2
  go_ret
  refine ⟨rfl, _, HFIN.out.1, HFIN.out.2.1, (TR.out.mono (S' := fun k => k = r ∨ k = ub ∨ (Value.slice av out.length cv).ownBlock = some k) (fun _ _ e => .inl e)).trans HFIN.out.2.2 (fun _ _ e => .inr e), ?_⟩
  rcases HWH.out with e | ⟨g, e, hge⟩
  · exact .inl e
  · exact .inr ⟨g, e, Nat.le_trans TR.out.size hge⟩
end Go.Proofs.Ytokelpnmeknncab
