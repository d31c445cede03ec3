/- Texts of this proof, one behind the other: what each says stands ahead of it. -/
import Derived.Test.YtffjkceedbblgaaGreatDoorM39
import Derived.Test.YtffjkceedbblgaaGreatDoorM36
/- GzMagic's walk; condition: the text fits into memory. -/
namespace Go.Proofs.YtffjkceedbblgaaGreatDoor
open Go.RowKit
open Go.Lib
open Gz

theorem magic_no {s : ByteArray} (h : isB s = false) (most : Nat) : partR s 0 most (.error (12, 0)) := by
  have : headAt s 0 = .error (12, 0) := by
    unfold headAt
    rw [if_pos]
    unfold isB at h
    by_cases h1 : s.size < 0 + 2
    · exact .inl h1
    · right
      by_cases h2 : Bt.byteN s 0 = 31
      · right
        intro h3
        rw [Nat.zero_add] at h3
        have hd : decide (2 ≤ s.size) = true := decide_eq_true (by omega)
        rw [hd, h2, h3] at h
        exact absurd h (by decide)
      · exact .inl h2
  unfold partR
  rw [this]
theorem rd_magic {s : ByteArray} (h : isB s = false) {r : Except Bad (List Part)} (k : Gz.Rd s 0 99 0 r) : r = .error (12, 0) :=
  k.same (.bad 0 99 0 (.inl rfl) (by decide) _ (magic_no h 99))
def aF : ByteArray := oneF ⟨#[97]⟩
theorem aF_size : aF.size = 24 := by unfold aF; rw [oneF_size, packS_size]; decide
theorem rd_behind {s : ByteArray} (h : isB s = false) {r : Except Bad (List Part)} (k : Gz.Rd (aF ++ s) 0 99 0 r) : (s.size = 0 → ∃ l, r = .ok l) ∧ (s.size ≠ 0 → r = .error (12, 24)) := by
  have p1 := (Win.left aF s).part (Nat.le_refl 99) (part_one ⟨#[97]⟩ 99 (by decide) (by decide))
  have hz : (oneF ⟨#[97]⟩).size = 24 := aF_size
  rw [Nat.add_zero, hz, Nat.zero_add] at p1
  have ht : (aF ++ s).size = 24 + s.size := by rw [ByteArray.size_append, aF_size]
  constructor
  · intro h0
    exact ⟨_, k.same (.more 0 99 0 (.inl rfl) (by decide) _ _ p1 [] (.fin _ _ _ (by decide) (by omega)))⟩
  · intro h0
    have p2 := (Win.right aF s).partNo (by rw [aF_size, ht]) (Nat.zero_le _) (Nat.le_refl 98) (by decide) (magic_no h 98)
    rw [aF_size] at p2
    exact k.same (.later 0 99 0 (.inl rfl) (by decide) _ _ p1 _ (.bad _ _ _ (.inr (by omega)) (by decide) _ p2))

theorem pn_one (d : ByteArray) (w : World) (b : Nat) (h : w.heap[b]? = some (.cells (plainC d) 28 (0, 0))) : Pn w b [d] := by
  refine ⟨lt_of_block h, fun i hi => ?_⟩
  obtain rfl : i = 0 := by simpa using hi
  have := plain_at h
  unfold PlainAt at this
  simpa using this
theorem file_one (d : ByteArray) : (⟨(fileB [d]).toArray⟩ : ByteArray) = oneF d := by
  rw [← oneF_is]
  simp [fileB]

set_option maxRecDepth 100000 in
set_option maxHeartbeats 8000000 in
theorem gzMagic_walk (s : ByteArray) (w : World) (hq : Quart w) (hs : s.size ≤ 1048576) :
    Calls Tryz.prog 3 #[.string s] w fun e w' => e = .returned (.bool true) ∧ Touch (fun _ => False) w w' := by
  have HQ := hid hq
  have K := hid (speaks_yes w hq)
  have KI := hid (is_any s w)
  clear hq
  cases hb : isB s with
  | true =>
    rw [hb] at KI
    clear hb
    go_enter Tryz.func3, Tryz.ntmps3
    go_wp2_with fail
    refine K.out.mono ?_
    rintro e w1 ⟨rfl, rfl⟩
    clear K
    go_wp2_with fail
    refine KI.out.mono ?_
    rintro e w1 ⟨rfl, rfl⟩
    clear KI
    go_wp2
    go_ret
    exact ⟨rfl, Touch.refl _ _⟩
  | false =>
    rw [hb] at KI
    have HR1 := hid (fun r (k : Gz.Rd s 0 99 0 r) => rd_magic hb k)
    have HR2 := hid (fun r (k : Gz.Rd (aF ++ s) 0 99 0 r) => rd_behind hb k)
    clear hb
    have TP := hid ((Touch.refl (fun _ => False) w).alloc (.cells (plainC ⟨#[97]⟩) 28))
    have BP := hid (new_block w (plainC ⟨#[97]⟩) 28)
    go_enter Tryz.func3, Tryz.ntmps3
    go_wp2_with fail
    refine K.out.mono ?_
    rintro e w1 ⟨rfl, rfl⟩
    clear K
    go_wp2_with fail
    refine KI.out.mono ?_
    rintro e w1 ⟨rfl, rfl⟩
    clear KI
    go_wp2_with fail
    obtain ⟨wP, hwP⟩ : ∃ wP, wP = w.alloc (.cells (plainC ⟨#[97]⟩) 28) := ⟨_, rfl⟩
    obtain ⟨q, hqq⟩ : ∃ q, q = w.heap.size := ⟨_, rfl⟩
    change Calls _ _ _ (w.alloc (.cells (plainC ⟨#[97]⟩) 28)) _
    rw [← hwP] at TP BP ⊢
    rw [← hqq] at BP ⊢
    clear hwP hqq
    have KW := hid (write_plain q 1 [⟨#[97]⟩] wP (pn_one _ _ _ BP.out) (HQ.out.new TP.out id) (by decide) (by decide) (fun d hd => by
      obtain rfl : d = ⟨#[97]⟩ := by simpa using hd
      exact ⟨by decide, partB_len _ (by decide)⟩))
    rw [file_one] at KW
    change Hid (Calls Tryz.prog 8 _ _ fun e w' => e = .returned (.tuple #[.string aF, .int .i64 0]) ∧ Touch (fun _ => False) wP w') at KW
    refine Calls.mono (R := fun e w' => e = .returned (.tuple #[.string aF, .int .i64 0]) ∧ Touch (fun _ => False) wP w') KW.out ?_
    rintro e w2 ⟨rfl, t2⟩
    have T2 := hid (TP.out.trans t2 (fun _ _ e => e))
    clear t2 KW TP BP
    have KA := hid (read_any s 99 w2 (HQ.out.new T2.out id) (by omega) (by decide))
    go_wp2_with fail
    refine Calls.mono (R := fun e w' => ∃ r, Gz.Rd s 0 99 0 r ∧ RPost 28 w2 r e w') KA.out ?_
    rintro e w3 ⟨r, hr, hp⟩
    obtain rfl := HR1.out r hr
    obtain ⟨rfl, t3⟩ := hp
    have T3 := hid ((T2.out.trans t3 (fun _ _ e => e)).alloc (.cells #[.int .i64 12, .int .i64 0] 31))
    have BF := hid (new_block w3 #[.int .i64 12, .int .i64 0] 31)
    clear t3 hr KA HR1 T2
    have haz := aF_size
    go_wp2_with fail
    generalize (w3.alloc (.cells #[.int .i64 12, .int .i64 0] 31)) = w4 at *
    obtain ⟨g, hg⟩ : ∃ g, g = w3.heap.size := ⟨_, rfl⟩
    rw [← hg] at BF ⊢
    clear hg
    have lg := lt_of_block BF.out
    have KB := hid (read_any (aF ++ s) 99 w4 (HQ.out.new T3.out id) (by rw [ByteArray.size_append, haz]; omega) (by decide))
    refine Calls.mono (R := fun e w' => ∃ r, Gz.Rd (aF ++ s) 0 99 0 r ∧ RPost 28 w4 r e w') KB.out ?_
    rintro e w5 ⟨r, hr, hp⟩
    obtain ⟨hr1, hr2⟩ := HR2.out r hr
    clear KB HR2 hr
    by_cases h0 : s.size = 0
    · obtain ⟨l, rfl⟩ := hr1 h0
      obtain ⟨v, rfl, _, t5⟩ := hp
      have T5 := hid (t5.alloc (.cells #[.int .i64 0, .int .i64 0] 31))
      have BG := hid (new_block w5 #[.int .i64 0, .int .i64 0] 31)
      have hse : s = ⟨#[]⟩ := by
        apply ByteArray.ext
        exact Array.eq_empty_of_size_eq_zero h0
      subst hse
      clear t5 hr1 hr2 h0
      go_upto_region 8 with fail
      generalize (w5.alloc (.cells #[.int .i64 0, .int .i64 0] 31)) = w6 at *
      obtain ⟨g2, hg2⟩ : ∃ g2, g2 = w5.heap.size := ⟨_, rfl⟩
      rw [← hg2] at BG ⊢
      clear hg2
      have c0 : w6.cell? ⟨g, 0, none⟩ = some (.int .i64 12) := cell_two0 ((T5.out.block g lg id).trans BF.out)
      have c1 : w6.cell? ⟨g, 1, none⟩ = some (.int .i64 0) := cell_two1 ((T5.out.block g lg id).trans BF.out)
      have d0 : w6.cell? ⟨g2, 0, none⟩ = some (.int .i64 0) := cell_two0 BG.out
      have d1 : w6.cell? ⟨g2, 1, none⟩ = some (.int .i64 0) := cell_two1 BG.out
      go_wp2
      go_ret
      exact ⟨rfl, T3.out.trans T5.out (fun _ _ e => e)⟩
    · obtain rfl := hr2 h0
      obtain ⟨rfl, t5⟩ := hp
      have T5 := hid (t5.alloc (.cells #[.int .i64 12, .int .i64 24] 31))
      have BG := hid (new_block w5 #[.int .i64 12, .int .i64 24] 31)
      have hne : s.toList.isEmpty = false := by
        rw [Bool.eq_false_iff]
        intro e
        rw [List.isEmpty_iff, ByteArray.toList_eq] at e
        have h3 : s.data.toList.length = 0 := by rw [e]; rfl
        rw [ba_len] at h3
        exact h0 h3
      have hne2 : ¬ s.toList = [] := fun e => by rw [e] at hne; exact absurd hne (by decide)
      have hazI : (aF.size : Int) = 24 := by omega
      clear t5 hr1 hr2 h0
      go_upto_region 8 with fail
      generalize (w5.alloc (.cells #[.int .i64 12, .int .i64 24] 31)) = w6 at *
      obtain ⟨g2, hg2⟩ : ∃ g2, g2 = w5.heap.size := ⟨_, rfl⟩
      rw [← hg2] at BG ⊢
      clear hg2
      have c0 : w6.cell? ⟨g, 0, none⟩ = some (.int .i64 12) := cell_two0 ((T5.out.block g lg id).trans BF.out)
      have c1 : w6.cell? ⟨g, 1, none⟩ = some (.int .i64 0) := cell_two1 ((T5.out.block g lg id).trans BF.out)
      have d0 : w6.cell? ⟨g2, 0, none⟩ = some (.int .i64 12) := cell_two0 BG.out
      have d1 : w6.cell? ⟨g2, 1, none⟩ = some (.int .i64 24) := cell_two1 BG.out
      go_wp2
      go_ret
      exact ⟨rfl, T3.out.trans T5.out (fun _ _ e => e)⟩
end Go.Proofs.YtffjkceedbblgaaGreatDoor
