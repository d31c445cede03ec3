/- Texts of this proof, one behind the other: what each says stands ahead of it. -/
import Derived.Test.YtffjkceedbblgaaGreatDoorM10
import Derived.Deep.LoopGhost
/- Unpack, given what its inner unpack does; conditions: the place and the bound are none that are refused. -/
namespace Go.Proofs.YtffjkceedbblgaaGreatDoor
open Go.RowKit

/-- What the inner unpack leaves: its error, where it stands, what was unpacked. -/
def UnpPost (R : Nat → Nat → List Nat → Prop) (ub r : Nat) (most : Int) (s : ByteArray) (w : World) (e : Ending) (w1 : World) : Prop :=
  ∃ err t' out, R err t' out ∧ e = .returned (.int .i64 (err : Nat)) ∧ t' ≤ 8 * s.size ∧ (∀ x ∈ out, x < 256) ∧ (∃ v' tl td, Up w1 ub r v' out most tl td) ∧ Rd w1 r s t' ∧ Touch (fun k => k = r ∨ k = ub) w w1

set_option maxRecDepth 100000 in
set_option maxHeartbeats 4000000 in
theorem Unpack_of (R : Nat → Nat → List Nat → Prop) (data : ByteArray) (fr : Nat) (most : Int) (w : World) (hd : data.size ≤ 140737488351232) (hf : fr ≤ data.size) (hm0 : 0 ≤ most)
    (H : ∀ ub r w0, Up w0 ub r (.slice none 0 0) [] most none none → Rd w0 r (data.extract fr data.size) 0 → Calls Tryz.prog 70 #[.pointer (some ⟨ub, 0, none⟩)] w0 (UnpPost R ub r most (data.extract fr data.size) w0)) :
    Calls Tryz.prog 54 #[.string data, .int .i64 fr, .int .i64 most] w fun e w' => (∃ err t' out, R err t' out ∧ t' ≤ 8 * (data.size - fr) ∧
      ((err = 0 ∧ e = .returned (.tuple #[.string (strOf out), .int .i64 (fr + (t' + 7) / 8 : Nat), .agg #[.int .i64 0, .int .i64 0]])) ∨
       (err ≠ 0 ∧ e = .returned (.tuple #[.string ByteArray.empty, .int .i64 0, .agg #[.int .i64 (err : Nat), .int .i64 (fr + t' / 8 : Nat)]])))) ∧ Touch (fun _ => False) w w' := by
  obtain ⟨s, hs⟩ : ∃ s, s = data.extract fr data.size := ⟨_, rfl⟩
  have hss : s.size = data.size - fr := by rw [hs, ByteArray.size_extract]; omega
  rw [← hs] at H
  have HH := hid H
  clear H
  go_enter Tryz.func54, Tryz.ntmps54
  go_wp2_with fail
  rw [← hs]
  clear hs
  refine (open_any _ _).mono ?_
  rintro e w1 ⟨rfl, rfl⟩
  have T0 := hid (((Touch.refl (fun _ => False) w).alloc (.cells #[.int .i64 0, .int .i64 0] 31)))
  have hw0 : w.heap.size < (w.alloc (.cells #[.int .i64 0, .int .i64 0] 31)).heap.size := by simp
  have fb0 : (w.alloc (.cells #[.int .i64 0, .int .i64 0] 31)).heap[w.heap.size]? = some (.cells #[.int .i64 0, .int .i64 0] 31 (0, 0)) := by
    show (w.heap.push _)[_]? = _
    simp
  generalize w.alloc (.cells #[.int .i64 0, .int .i64 0] 31) = wA at *
  have fb1 : (wA.alloc (.cells #[.string s, .int .i64 0] 161)).heap[w.heap.size]? = some (.cells #[.int .i64 0, .int .i64 0] 31 (0, 0)) := by rw [Below.heap_alloc _ _ _ hw0]; exact fb0
  have rd0 := rd_new wA s
  have T1 := hid (T0.out.alloc (.cells #[.string s, .int .i64 0] 161))
  have hw1 : wA.heap.size < (wA.alloc (.cells #[.string s, .int .i64 0] 161)).heap.size := by simp
  generalize hwB : wA.alloc (.cells #[.string s, .int .i64 0] 161) = wB at *
  clear hwB
  generalize wA.heap.size = r at *
  have fb2 : (wB.alloc (.cells #[.pointer (some ⟨r, 0, none⟩), .slice none 0 0, .int .i64 most, .pointer none, .pointer none] 148)).heap[w.heap.size]? = some (.cells #[.int .i64 0, .int .i64 0] 31 (0, 0)) := by rw [Below.heap_alloc _ _ _ (by omega)]; exact fb1
  have FB2 := hid fb2
  clear fb0 fb1 fb2
  have up0 := up_new wB r most
  have rd1 : Rd (wB.alloc (.cells #[.pointer (some ⟨r, 0, none⟩), .slice none 0 0, .int .i64 most, .pointer none, .pointer none] 148)) r s 0 := by
    unfold Rd at rd0 ⊢
    rw [Below.heap_alloc _ _ _ hw1]
    exact rd0
  have T2 := hid (T1.out.alloc (.cells #[.pointer (some ⟨r, 0, none⟩), .slice none 0 0, .int .i64 most, .pointer none, .pointer none] 148))
  have US := hid (HH.out wB.heap.size r _ up0 rd1)
  clear up0 rd1 rd0
  go_wp2_with fail
  refine US.out.mono ?_
  rintro e w2 ⟨err, t', out, hR, rfl, ht', hsm, ⟨v', tl, td, u2⟩, r2, tc2⟩
  have HR := hid hR
  have HSM := hid hsm
  have U2 := hid u2
  have R2 := hid r2
  have T3 := hid (T2.out.trans tc2 (fun k hk e => by
    rcases e with e | e
    · omega
    · omega))
  have fb3 : w2.heap[w.heap.size]? = some (.cells #[.int .i64 0, .int .i64 0] 31 (0, 0)) := by
    rw [tc2.block _ (lt_of_block FB2.out) (fun e => by
      rcases e with e | e
      · omega
      · omega)]
    exact FB2.out
  have g0 : w2.cell? ⟨w.heap.size, 0, none⟩ = some (.int .i64 0) := by simp [World.cell?, fb3]
  have g1 : w2.cell? ⟨w.heap.size, 1, none⟩ = some (.int .i64 0) := by simp [World.cell?, fb3]
  have gf0 : w2.frozen? ⟨w.heap.size, 0, none⟩ = false := by simp [World.frozen?, fb3]
  have gf1 : w2.frozen? ⟨w.heap.size, 1, none⟩ = false := by simp [World.frozen?, fb3]
  have FB3 := hid fb3
  clear fb3 FB2 hR hsm
  clear u2 r2 tc2 US HH
  obtain ⟨av, cv, hav⟩ := up_shape U2.out
  have c0 := (up_cells U2.out).1
  have c1 := (up_cells U2.out).2.1
  by_cases herr : err = 0
  · subst herr
    have hcv : (convert 36 9 v').run Tryz.prog w2.drew = .ok (.string (strOf out)) w2.drew := conv_up U2.out HSM.out _ rfl
    subst hav
    obtain ⟨SS, hSS⟩ : ∃ SS, strOf out = SS := ⟨_, rfl⟩
    rw [hSS] at hcv
    have HSS := hid hSS
    clear hSS
    go_wp2_with fail
    clear T0 T1 T2
    have TK := hid (taken_any r s t' w2.drew R2.out)
    have HPV := hid (place_val fr t' (by omega) (by omega))
    go_region_with (go_at_call 71; refine TK.out.mono ?_; rintro e w3 ⟨rfl, rfl⟩)
    all_goals
      rw [HPV.out]
      go_wp2
      have hfb := two_set1 (x := .int .i64 0) (two_set0 (x := .int .i64 0) (w := w2.drew) FB3.out)
      (try simp only [Exit.inBlock, Exit.then])
      refine bodyPost_ret (results_ttc rfl _ _ w.heap.size 31 _ (0, 0) _ rfl hfb Tryz.underlying31 rfl (by kernel_rfl)) rfl ?_
      refine ⟨⟨0, t', out, HR.out, by omega, .inl ⟨rfl, ?_⟩⟩, ((T3.out.drew.setCell (fun h => absurd h (Nat.lt_irrefl _)) _).setCell (fun h => absurd h (Nat.lt_irrefl _)) _)⟩
      rw [HSS.out]
      rfl
  · subst hav
    have hne : ((err : Int) != 0) = true := by simp; omega
    clear T0 T1 T2
    have TK := hid (taken_any r s t' w2 R2.out)
    have HE := hid herr
    clear herr
    go_wp2_with fail
    refine TK.out.mono ?_
    rintro e w3 ⟨rfl, rfl⟩
    go_wp2_with fail
    have hfb := two_set1 (x := .int .i64 ((fr : Int) + (t' : Int) / 8)) (two_set0 (x := .int .i64 (err : Nat)) (w := w3) FB3.out)
    refine bodyPost_ret (results_ttc rfl _ _ w.heap.size 31 _ (0, 0) _ rfl hfb Tryz.underlying31 rfl (by kernel_rfl)) rfl ?_
    refine ⟨⟨err, t', out, HR.out, by omega, .inr ⟨HE.out, ?_⟩⟩, ((T3.out.setCell (fun h => absurd h (Nat.lt_irrefl _)) _).setCell (fun h => absurd h (Nat.lt_irrefl _)) _)⟩
    have e : ((fr + t' / 8 : Nat) : Int) = (fr : Int) + (t' : Int) / 8 := by omega
    rw [e]
    rfl

/-- Nothing to unpack: the first bit is wanting. -/
theorem unpack_none (ub r : Nat) (most : Int) (s : ByteArray) (w : World) (hu : Up w ub r (.slice none 0 0) [] most none none) (hr : Rd w r s 0) (hs : s.size = 0) :
    Calls Tryz.prog 70 #[.pointer (some ⟨ub, 0, none⟩)] w (UnpPost (fun err t' _ => err = 3 ∧ t' = 0) ub r most s w) := by
  have K1 := hid (take_end r s 0 1 w hr (by omega) (by omega) (by omega) (by omega))
  have c0 := (up_cells hu).1
  have U := hid hu
  have RR := hid hr
  clear hu hr
  go_enter Tryz.func70, Tryz.ntmps70
  go_wp2_with fail
  go_loopg [3] 1 (fun g l wr => g = 1 ∧ l = .int .i64 0 ∧ wr = w)
  case atStart => exact ⟨rfl, rfl, rfl⟩
  case round =>
    obtain ⟨hg, rfl, rfl⟩ := hrel
    go_wp2_with fail
    refine K1.out.mono ?_
    rintro e w1 ⟨rfl, hst⟩
    have ST := hid hst
    clear hst K1
    go_wp2
    go_ret
    exact ⟨3, 0, [], ⟨rfl, rfl⟩, rfl, by omega, by simp, ⟨_, _, _, U.out.reads RR.out (ST.out.touch _)⟩, ST.out.rd RR.out, ST.out.touch _⟩
end Go.Proofs.YtffjkceedbblgaaGreatDoor
