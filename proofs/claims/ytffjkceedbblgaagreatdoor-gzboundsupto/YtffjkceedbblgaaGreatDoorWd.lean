/- The file of plain parts, plain: with a bound of all their bytes it is read, with one less it is told to be too long; condition: each part has less than 2^32 bytes. -/
import Derived.Test.YtffjkceedbblgaaGreatDoorM21
import Derived.Test.YtffjkceedbblgaaGreatDoorM40
namespace Go.Proofs.YtffjkceedbblgaaGreatDoor
open Go.RowKit
open Go.Lib
open Gz

theorem un_bd {s : ByteArray} {most t : Nat} {out : List Nat} {e t' : Nat} {o : List Nat} (h : Inf.Un s most t out e t' o) : Inf.Bd s most t out → t' ≤ 8 * s.size := by
  induction h with
  | cut1 t out h => intro hb; exact hb.fits
  | cut2 t out h h1 => intro _; omega
  | err t out h e t' out' b he => intro hb; exact (Inf.bk_bd b (hb.later (by omega) (by omega))).fits
  | last t out h h1 t' out' b => intro hb; exact (Inf.bk_bd b (hb.later (by omega) (by omega))).fits
  | more t out h h1 t1 out1 b e t' out' r ih => intro hb; exact ih (Inf.bk_bd b (hb.later (by omega) (by omega)))
theorem says_long (d more : ByteArray) (f most : Nat) (h : most < d.size) : ∃ A, Says (packS d ++ more) f most ByteArray.empty 0 2 A := by
  obtain ⟨er, t', o, hun, ht, hr⟩ := says_more more (says_plain d f d.size (Nat.le_refl _))
  rcases hr with ⟨h0, hS, _, _, _⟩ | ⟨_, _, _, hC, _⟩
  · subst h0
    have hsz : d.size = o.length := by
      have := congrArg ByteArray.size hS
      rw [size_strOf] at this
      exact this
    obtain ⟨t3, o3, h3⟩ := ((Inf.un_bound hun rfl).2 most).2 (by simp) (by omega)
    exact ⟨_, 2, t3, o3, h3, un_bd h3 (Inf.bd_zero _ _), .inr ⟨by decide, rfl, rfl, rfl, rfl⟩⟩
  · omega
theorem Gz.Win.comp {a b c : ByteArray} {o p : Nat} (h : Win a b o) (k : Win b c p) : Win a c (p + o) := by
  refine ⟨by have := h.size; have := k.size; omega, fun i hi => ?_⟩
  rw [Nat.add_assoc, k.byte (o + i) (by have := h.size; omega), h.byte i hi]
theorem part_long {t d : ByteArray} {p most : Nat} (hw : Win (oneF d) t p) (h : most < d.size) : ∃ A, partR t p most (.error (2, A)) := by
  have hs := hw.size
  rw [oneF_size] at hs
  have hb : ∀ j, j < 10 → Bt.byteN t (p + j) = Bt.byteN headB j := fun j hj => by rw [hw.byte j (by rw [oneF_size]; omega), one_head d j hj]
  have hh : headAt t p = .ok 0 := by
    unfold headAt
    have b0 := hb 0 (by omega)
    rw [Nat.add_zero] at b0
    rw [b0, hb 1 (by omega), hb 2 (by omega), hb 3 (by omega), if_neg (by rw [show Bt.byteN headB 0 = 31 by decide, show Bt.byteN headB 1 = 139 by decide]; omega), if_neg (by omega), if_neg (by decide), if_neg (by decide)]
    rfl
  have ht : textsAt t (p + 10) 0 = .ok (ByteArray.empty, ByteArray.empty, ByteArray.empty, p + 10) := rfl
  have hu : sumAt t p (p + 10) (0 / 2 % 2 == 1) = .ok (p + 10) := rfl
  have hrest := ((one_pack d).comp hw).rest 0 (Nat.zero_le _)
  rw [Nat.add_zero, show (packS d).extract 0 (packS d).size = packS d from ByteArray.extract_zero_size] at hrest
  obtain ⟨A, hA⟩ := says_long d (t.extract (p + 10 + (packS d).size) t.size) (p + 10) most h
  rw [← hrest] at hA
  refine ⟨A, ?_⟩
  unfold partR
  rw [hh]
  dsimp only
  rw [ht]
  dsimp only
  rw [hu]
  dsimp only
  exact ⟨.error (2, A), ⟨ByteArray.empty, 0, 2, A, hA, Nat.zero_le _, fun e => absurd e (by decide), by rw [if_pos (by decide)]⟩, rfl⟩
/-- The file of plain parts. -/
def FB (ds : List ByteArray) : ByteArray := ⟨(fileB ds).toArray⟩
theorem FB_cons (d : ByteArray) (r : List ByteArray) : FB (d :: r) = oneF d ++ FB r := by
  rw [← oneF_is]
  apply ByteArray.ext
  simp [FB, fileB, ByteArray.data_append]
def tot (ds : List ByteArray) : Nat := (ds.map (·.size)).sum
theorem tot_cons (d : ByteArray) (r : List ByteArray) : tot (d :: r) = d.size + tot r := by simp [tot]
theorem rd_all : ∀ (ds : List ByteArray) (t : ByteArray) (p n most : Nat), Win (FB ds) t p → p + (FB ds).size = t.size → n + ds.length ≤ 1024 → (n ≠ 0 ∨ ds ≠ []) → tot ds ≤ most → (∀ d ∈ ds, d.size < 2 ^ 32) → Gz.Rd t p most n (.ok (ds.map plainP))
  | [], t, p, n, most, _, hz, _, hne, _, _ => by
    have hn : n ≠ 0 := hne.resolve_right (fun e => e rfl)
    refine .fin p most n hn ?_
    have : (FB []).size = 0 := rfl
    omega
  | d :: r, t, p, n, most, hw, hz, hl, _, hm, hd => by
    rw [FB_cons] at hw hz
    rw [ByteArray.size_append] at hz
    rw [tot_cons] at hm
    simp only [List.length_cons] at hl
    have h1 := (Win.left (oneF d) (FB r)).comp hw
    have h2 := (Win.right (oneF d) (FB r)).comp hw
    rw [Nat.add_zero] at h1
    have hp := h1.part (Nat.le_refl most) (part_one d most (by omega) (hd d (by simp)))
    rw [Nat.add_zero] at hp
    have h23 := oneF_size d
    exact .more p most n (.inr (by omega)) (by omega) _ _ hp _ (rd_all r t _ (n + 1) (most - d.size) h2 (by omega) (by omega) (.inl (by omega)) (by omega) (fun x hx => hd x (by simp [hx])))
theorem rd_short : ∀ (ds : List ByteArray) (t : ByteArray) (p n most : Nat), Win (FB ds) t p → p + (FB ds).size = t.size → n + ds.length ≤ 1024 → most < tot ds → (∀ d ∈ ds, d.size < 2 ^ 32) → ∃ A, Gz.Rd t p most n (.error (2, A))
  | [], _, _, _, _, _, _, _, hm, _ => by simp [tot] at hm
  | d :: r, t, p, n, most, hw, hz, hl, hm, hd => by
    rw [FB_cons] at hw hz
    rw [ByteArray.size_append] at hz
    rw [tot_cons] at hm
    simp only [List.length_cons] at hl
    have h1 := (Win.left (oneF d) (FB r)).comp hw
    have h2 := (Win.right (oneF d) (FB r)).comp hw
    rw [Nat.add_zero] at h1
    have h23 := oneF_size d
    by_cases hle : d.size ≤ most
    · have hp := h1.part (Nat.le_refl most) (part_one d most hle (hd d (by simp)))
      rw [Nat.add_zero] at hp
      obtain ⟨A, hA⟩ := rd_short r t _ (n + 1) (most - d.size) h2 (by omega) (by omega) (by omega) (fun x hx => hd x (by simp [hx]))
      exact ⟨A, .later p most n (.inr (by omega)) (by omega) _ _ hp _ hA⟩
    · obtain ⟨A, hA⟩ := part_long h1 (show most < d.size by omega)
      exact ⟨A, .bad p most n (.inr (by omega)) (by omega) _ hA⟩
theorem win_self (s : ByteArray) : Win s s 0 := ⟨by omega, fun i _ => by rw [Nat.zero_add]⟩
theorem read_all {ds : List ByteArray} (h0 : ds ≠ []) (hl : ds.length ≤ 20) (hd : ∀ d ∈ ds, d.size < 2 ^ 32) {r : Except Bad (List Part)} (k : Gz.Rd (FB ds) 0 (tot ds) 0 r) : r = .ok (ds.map plainP) :=
  k.same (rd_all ds (FB ds) 0 0 (tot ds) (win_self _) (Nat.zero_add _) (by omega) (.inr h0) (Nat.le_refl _) hd)
theorem read_short {ds : List ByteArray} (hl : ds.length ≤ 20) (ht : 0 < tot ds) (hd : ∀ d ∈ ds, d.size < 2 ^ 32) {r : Except Bad (List Part)} (k : Gz.Rd (FB ds) 0 (tot ds - 1) 0 r) : ∃ A, r = .error (2, A) := by
  obtain ⟨A, hA⟩ := rd_short ds (FB ds) 0 0 (tot ds - 1) (win_self _) (Nat.zero_add _) (by omega) (by omega) hd
  exact ⟨A, k.same hA⟩
end Go.Proofs.YtffjkceedbblgaaGreatDoor
