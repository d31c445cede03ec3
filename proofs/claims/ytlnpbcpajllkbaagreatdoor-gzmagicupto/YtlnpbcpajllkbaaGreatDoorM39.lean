/- Texts of this proof, one behind the other: what each says stands ahead of it. -/
import Derived.Test.YtlnpbcpajllkbaaGreatDoorM38
import Derived.Test.YtlnpbcpajllkbaaGreatDoorM32
/- Parts in memory, to be read; what GzJoined says, plain; conditions: those told. -/
namespace Go.Proofs.YtlnpbcpajllkbaaGreatDoor
open Go.RowKit

theorem flatP_at : ∀ (l : List Gz.Part) (i : Nat) (h : i < l.length) (j : Nat), j < 9 → (flatP l)[i * 9 + j]? = (partC l[i])[j]?
  | [], i, h, _, _ => by simp at h
  | x :: l, i, h, j, hj => by
    have e : flatP (x :: l) = (partC x).toList ++ flatP l := rfl
    have hlen : (partC x).toList.length = 9 := rfl
    rw [e]
    cases i with
    | zero =>
      rw [List.getElem?_append_left (by rw [hlen]; omega), Nat.zero_mul, Nat.zero_add]
      simp
    | succ i =>
      have ih := flatP_at l i (by simpa using h) j hj
      rw [List.getElem?_append_right (by rw [hlen]; omega), hlen, show (i + 1) * 9 + j - 9 = i * 9 + j by omega, ih]
      simp
def Pls (w : World) (a : Option Addr) (l : List Gz.Part) : Prop := l = [] ∨ ∃ b, a = some ⟨b, 0, none⟩ ∧ b < w.heap.size ∧ ∀ i (h : i < l.length) (j : Nat), j < 9 → w.cell? ⟨b, i * 9 + j, none⟩ = (partC l[i])[j]?
theorem own_pls {w : World} {e : TypeId} {v : Value} {l : List Gz.Part} (h : w.ownsRow 0 e 9 v l.length (flatP l)) : ∃ a c, v = .slice a l.length c ∧ Pls w a l := by
  rcases h.2 with ⟨h1, h2⟩ | ⟨g, cap, cur, hv, hg, hh, hle, _⟩
  · exact ⟨none, 0, by rw [h1, h2], .inl (List.eq_nil_of_length_eq_zero h2)⟩
  · refine ⟨some ⟨g, 0, none⟩, cap, hv, .inr ⟨g, rfl, lt_of_block hh, fun i hi j hj => ?_⟩⟩
    have h0 := flatP_at l i hi j hj
    have hsz : j < (partC l[i]).size := by show j < 9; exact hj
    rw [Array.getElem?_eq_getElem hsz] at h0 ⊢
    have c := h.cells (g := g) (by rw [hv]; rfl) _ _ h0
    rw [add_zero] at c
    exact c
theorem Pls.keep {w w' : World} {a : Option Addr} {l : List Gz.Part} (h : Pls w a l) (t : Touch (fun _ => False) w w') : Pls w' a l := by
  rcases h with h | ⟨b, ha, hb, hc⟩
  · exact .inl h
  · exact .inr ⟨b, ha, Nat.lt_of_lt_of_le hb t.size, fun i hi j hj => (t.cell (p := ⟨b, i * 9 + j, none⟩) hb id).trans (hc i hi j hj)⟩
theorem Pls.drewN {w : World} {a : Option Addr} {l : List Gz.Part} (h : Pls w a l) (n : Nat) : Pls (w.drewN n) a l := h.keep ((Touch.refl _ w).drewN n)
/-- What Read answers, whether it erred or not. -/
theorem rpost {e0 : TypeId} {w w' : World} {r : Except Gz.Bad (List Gz.Part)} {e : Ending} (h : RPost e0 w r e w') : ∃ a c l, ∃ y : Gz.Bad, e = .returned (.tuple #[.slice a l.length c, .agg #[.int .i64 (y.1 : Nat), .int .i64 (y.2 : Nat)]]) ∧ Pls w' a l ∧ Touch (fun _ => False) w w' ∧ (r = .error y ∧ l = [] ∨ r = .ok l ∧ y = (0, 0)) := by
  cases r with
  | error y =>
    obtain ⟨rfl, t⟩ := h
    exact ⟨none, 0, [], y, rfl, .inl rfl, t, .inl ⟨rfl, rfl⟩⟩
  | ok l =>
    obtain ⟨v, rfl, o, t⟩ := h
    obtain ⟨a, c, rfl, p⟩ := own_pls o.own
    exact ⟨a, c, l, (0, 0), rfl, p, t, .inr ⟨rfl, rfl⟩⟩
namespace Gz
theorem extra_bad {s : ByteArray} {t : Nat} {x : Bad} (h : extraAt s t = .error x) : x.1 ≠ 0 := extra_code h
theorem texts_code {s : ByteArray} {t f : Nat} {x : Bad} (h : textsAt s t f = .error x) : x.1 ≠ 0 := by
  unfold textsAt at h
  split at h
  · rename_i h1
    cases h
    unfold perhaps at h1
    split at h1
    · exact extra_code h1
    · cases h1
  · split at h
    · rename_i h1
      cases h
      unfold perhaps at h1
      split at h1
      · exact name_code h1
      · cases h1
    · split at h
      · rename_i h1
        cases h
        unfold perhaps at h1
        split at h1
        · exact name_code h1
        · cases h1
      · cases h
theorem part_code {s : ByteArray} {p most : Nat} {x : Bad} (h : partR s p most (.error x)) : x.1 ≠ 0 := by
  unfold partR at h
  split at h
  · rename_i h1
    cases h
    exact head_code h1
  · split at h
    · rename_i h1
      cases h
      exact texts_code h1
    · split at h
      · rename_i h1
        cases h
        exact sum_code h1
      · obtain ⟨q, hq, hr⟩ := h
        split at hr
        · cases hr
          exact pack_code hq
        · cases hr
theorem rd_code {s : ByteArray} {p most n : Nat} {r : Except Bad (List Part)} (h : Rd s p most n r) : ∀ {x}, r = .error x → x.1 ≠ 0 := by
  induction h with
  | fin => intro x h; cases h
  | many => intro x h; cases h; simp
  | bad p most n h hn b k => intro x h; cases h; exact part_code k
  | more => intro x h; cases h
  | later p most n h hn x e k b r ih => intro y h; cases h; exact ih rfl
theorem rd_some {s : ByteArray} {p most : Nat} {l : List Part} (h : Rd s p most 0 (.ok l)) : l.length ≠ 0 := by
  cases h with
  | fin _ _ _ h0 => exact absurd rfl h0
  | more => simp
theorem rd_empty {s : ByteArray} (hs : s.size = 0) {most : Nat} {r : Except Bad (List Part)} (h : Rd s 0 most 0 r) : r = .error (12, 0) := by
  have hk : partR s 0 most (.error (12, 0)) := by
    have : headAt s 0 = .error (12, 0) := by unfold headAt; rw [if_pos (.inl (by omega))]
    unfold partR
    rw [this]
  exact h.same (.bad 0 most 0 (.inl rfl) (by decide) _ hk)
/-- Two files one behind the other. -/
theorem joined {a b : ByteArray} {r1 r2 r3 : Except Bad (List Part)} (h1 : Rd a 0 1048576 0 r1) (h2 : Rd b 0 1048576 0 r2) (h3 : Rd (a ++ b) 0 2097152 0 r3) {l1 l2 l3 : List Part} {y1 y2 y3 : Bad}
    (k1 : r1 = .error y1 ∧ l1 = [] ∨ r1 = .ok l1 ∧ y1 = (0, 0)) (k2 : r2 = .error y2 ∧ l2 = [] ∨ r2 = .ok l2 ∧ y2 = (0, 0)) (k3 : r3 = .error y3 ∧ l3 = [] ∨ r3 = .ok l3 ∧ y3 = (0, 0)) :
    (y1.1 ≠ 0 ∧ l1.length = 0) ∨
    (y1 = (0, 0) ∧ (1024 ≤ l1.length ∨ y2.1 = 2)) ∨
    (y1 = (0, 0) ∧ l1.length < 1024 ∧ y2.1 ≠ 2 ∧ y2.1 ≠ 0 ∧ b.size = 0 ∧ l3.length = l1.length) ∨
    (y1 = (0, 0) ∧ l1.length < 1024 ∧ y2.1 ≠ 2 ∧ y2.1 ≠ 0 ∧ b.size ≠ 0 ∧ y3.1 ≠ 0 ∧ l3.length = 0) ∨
    (y1 = (0, 0) ∧ y2 = (0, 0) ∧ l1.length < 1024 ∧ 1024 < l1.length + l2.length ∧ y3.1 = 16) ∨
    (y1 = (0, 0) ∧ y2 = (0, 0) ∧ y3 = (0, 0) ∧ l1.length < 1024 ∧ l1.length + l2.length ≤ 1024 ∧ l3 = l1 ++ l2) := by
  rcases k1 with ⟨rfl, rfl⟩ | ⟨rfl, rfl⟩
  · exact .inl ⟨rd_code h1 rfl, rfl⟩
  by_cases hm : 1024 ≤ l1.length
  · exact .inr (.inl ⟨rfl, .inl hm⟩)
  have hl0 := rd_some h1
  have hw := Win.left a b
  obtain ⟨f1, f2⟩ := rd_first hw h1 rfl (most' := 2097152) (by decide) (Nat.zero_le _) (.inl (by omega))
  rcases k2 with ⟨rfl, rfl⟩ | ⟨rfl, rfl⟩
  · by_cases hc : y2.1 = 2
    · exact .inr (.inl ⟨rfl, .inr hc⟩)
    have hc0 := rd_code h2 rfl
    by_cases hb : b.size = 0
    · refine .inr (.inr (.inl ⟨rfl, by omega, hc, hc0, hb, ?_⟩))
      have g := f2 (r2 := .ok []) (fun hne => .fin _ _ _ hne (by rw [ByteArray.size_append]; omega))
      have e := h3.same g
      rcases k3 with ⟨rfl, rfl⟩ | ⟨rfl, rfl⟩
      · cases e
      · simp only [addTo, List.append_nil] at e
        cases e
        rfl
    · refine .inr (.inr (.inr (.inl ⟨rfl, by omega, hc, hc0, hb, ?_⟩)))
      have hq := rd_second (Win.right a b) (by rw [ByteArray.size_append]) h2 (most' := 2097152 - sizes l1) (n' := l1.length + 0) (by omega) (Nat.zero_le _) (Nat.zero_le _) (by omega) (by omega) (fun _ => by omega)
      obtain ⟨c2, a2, hc2, hr⟩ := hq.2 y2.1 y2.2 rfl hc hc0
      have e := h3.same (f2 (fun _ => hr))
      rcases k3 with ⟨rfl, rfl⟩ | ⟨rfl, rfl⟩
      · cases e
        exact ⟨hc2, rfl⟩
      · cases e
  · have hb : b.size ≠ 0 := fun h => by
      have := rd_empty h h2
      cases this
    have hq := rd_second (Win.right a b) (by rw [ByteArray.size_append]) h2 (most' := 2097152 - sizes l1) (n' := l1.length + 0) (by omega) (Nat.zero_le _) (Nat.zero_le _) (by omega) (by omega) (fun _ => by omega)
    obtain ⟨g1, g2⟩ := hq.1 l2 rfl
    by_cases hmany : 1024 < l1.length + l2.length
    · obtain ⟨a2, hr⟩ := g2 (by omega)
      have e := h3.same (f2 (fun _ => hr))
      refine .inr (.inr (.inr (.inr (.inl ⟨rfl, rfl, by omega, hmany, ?_⟩))))
      rcases k3 with ⟨rfl, rfl⟩ | ⟨rfl, rfl⟩
      · cases e
        rfl
      · cases e
    · have hr := g1 (by omega)
      have e := h3.same (f2 (fun _ => hr))
      refine .inr (.inr (.inr (.inr (.inr ⟨rfl, rfl, ?_⟩))))
      rcases k3 with ⟨rfl, rfl⟩ | ⟨rfl, rfl⟩
      · cases e
      · cases e
        exact ⟨rfl, by omega, by omega, rfl⟩
end Gz
set_option maxRecDepth 100000 in
theorem speaks_yes (w : World) (hq : Quart w) : Calls Tryz.prog 6 #[] w fun e w' => e = .returned (.bool true) ∧ w = w' := by
  have K := hid (sum_any ⟨#[49, 50, 51, 52, 53, 54, 55, 56, 57]⟩ (by decide) w hq)
  rw [show Gz.sum ⟨#[49, 50, 51, 52, 53, 54, 55, 56, 57]⟩ = 3421780262 by decide +kernel] at K
  go_enter Tryz.func6, Tryz.ntmps6
  go_wp2_with fail
  refine K.out.mono ?_
  rintro e w1 ⟨rfl, rfl⟩
  clear K
  go_wp2
  go_ret
  exact ⟨rfl, rfl⟩
end Go.Proofs.YtlnpbcpajllkbaaGreatDoor

/- GzMagic's walk; condition: the text fits into memory. -/
namespace Go.Proofs.YtlnpbcpajllkbaaGreatDoor
open Go.RowKit
open Go.Lib
open Gz

theorem magic_no {s : ByteArray} (h : isB s = false) (most : Nat) : partR s 0 most (.error (12, 0)) := by
  have : headAt s 0 = .error (12, 0) := by
    unfold headAt
    rw [if_pos]
    unfold isB at h
    by_cases h1 : s.size < 0 + 2
    · exact .inl h1
    · right
      by_cases h2 : Bt.byteN s 0 = 31
      · right
        intro h3
        rw [Nat.zero_add] at h3
        have hd : decide (2 ≤ s.size) = true := decide_eq_true (by omega)
        rw [hd, h2, h3] at h
        exact absurd h (by decide)
      · exact .inl h2
  unfold partR
  rw [this]
theorem rd_magic {s : ByteArray} (h : isB s = false) {r : Except Bad (List Part)} (k : Gz.Rd s 0 99 0 r) : r = .error (12, 0) :=
  k.same (.bad 0 99 0 (.inl rfl) (by decide) _ (magic_no h 99))
def aF : ByteArray := oneF ⟨#[97]⟩
theorem aF_size : aF.size = 24 := by unfold aF; rw [oneF_size, packS_size]; decide
theorem rd_behind {s : ByteArray} (h : isB s = false) {r : Except Bad (List Part)} (k : Gz.Rd (aF ++ s) 0 99 0 r) : (s.size = 0 → ∃ l, r = .ok l) ∧ (s.size ≠ 0 → r = .error (12, 24)) := by
  have p1 := (Win.left aF s).part (Nat.le_refl 99) (part_one ⟨#[97]⟩ 99 (by decide) (by decide))
  have hz : (oneF ⟨#[97]⟩).size = 24 := aF_size
  rw [Nat.add_zero, hz, Nat.zero_add] at p1
  have ht : (aF ++ s).size = 24 + s.size := by rw [ByteArray.size_append, aF_size]
  constructor
  · intro h0
    exact ⟨_, k.same (.more 0 99 0 (.inl rfl) (by decide) _ _ p1 [] (.fin _ _ _ (by decide) (by omega)))⟩
  · intro h0
    have p2 := (Win.right aF s).partNo (by rw [aF_size, ht]) (Nat.zero_le _) (Nat.le_refl 98) (by decide) (magic_no h 98)
    rw [aF_size] at p2
    exact k.same (.later 0 99 0 (.inl rfl) (by decide) _ _ p1 _ (.bad _ _ _ (.inr (by omega)) (by decide) _ p2))

theorem pn_one (d : ByteArray) (w : World) (b : Nat) (h : w.heap[b]? = some (.cells (plainC d) 28 (0, 0))) : Pn w b [d] := by
  refine ⟨lt_of_block h, fun i hi => ?_⟩
  obtain rfl : i = 0 := by simpa using hi
  have := plain_at h
  unfold PlainAt at this
  simpa using this
theorem file_one (d : ByteArray) : (⟨(fileB [d]).toArray⟩ : ByteArray) = oneF d := by
  rw [← oneF_is]
  simp [fileB]

set_option maxRecDepth 100000 in
set_option maxHeartbeats 8000000 in
theorem gzMagic_walk (s : ByteArray) (w : World) (hq : Quart w) (hs : s.size ≤ 1048576) :
    Calls Tryz.prog 3 #[.string s] w fun e w' => e = .returned (.bool true) ∧ Touch (fun _ => False) w w' := by
  have HQ := hid hq
  have K := hid (speaks_yes w hq)
  have KI := hid (is_any s w)
  clear hq
  cases hb : isB s with
  | true =>
    rw [hb] at KI
    clear hb
    go_enter Tryz.func3, Tryz.ntmps3
    go_wp2_with fail
    refine K.out.mono ?_
    rintro e w1 ⟨rfl, rfl⟩
    clear K
    go_wp2_with fail
    refine KI.out.mono ?_
    rintro e w1 ⟨rfl, rfl⟩
    clear KI
    go_wp2
    go_ret
    exact ⟨rfl, Touch.refl _ _⟩
  | false =>
    rw [hb] at KI
    have HR1 := hid (fun r (k : Gz.Rd s 0 99 0 r) => rd_magic hb k)
    have HR2 := hid (fun r (k : Gz.Rd (aF ++ s) 0 99 0 r) => rd_behind hb k)
    clear hb
    have TP := hid ((Touch.refl (fun _ => False) w).alloc (.cells (plainC ⟨#[97]⟩) 28))
    have BP := hid (new_block w (plainC ⟨#[97]⟩) 28)
    go_enter Tryz.func3, Tryz.ntmps3
    go_wp2_with fail
    refine K.out.mono ?_
    rintro e w1 ⟨rfl, rfl⟩
    clear K
    go_wp2_with fail
    refine KI.out.mono ?_
    rintro e w1 ⟨rfl, rfl⟩
    clear KI
    go_wp2_with fail
    obtain ⟨wP, hwP⟩ : ∃ wP, wP = w.alloc (.cells (plainC ⟨#[97]⟩) 28) := ⟨_, rfl⟩
    obtain ⟨q, hqq⟩ : ∃ q, q = w.heap.size := ⟨_, rfl⟩
    change Calls _ _ _ (w.alloc (.cells (plainC ⟨#[97]⟩) 28)) _
    rw [← hwP] at TP BP ⊢
    rw [← hqq] at BP ⊢
    clear hwP hqq
    have KW := hid (write_plain q 1 [⟨#[97]⟩] wP (pn_one _ _ _ BP.out) (HQ.out.new TP.out id) (by decide) (by decide) (fun d hd => by
      obtain rfl : d = ⟨#[97]⟩ := by simpa using hd
      exact ⟨by decide, partB_len _ (by decide)⟩))
    rw [file_one] at KW
    change Hid (Calls Tryz.prog 8 _ _ fun e w' => e = .returned (.tuple #[.string aF, .int .i64 0]) ∧ Touch (fun _ => False) wP w') at KW
    refine Calls.mono (R := fun e w' => e = .returned (.tuple #[.string aF, .int .i64 0]) ∧ Touch (fun _ => False) wP w') KW.out ?_
    rintro e w2 ⟨rfl, t2⟩
    have T2 := hid (TP.out.trans t2 (fun _ _ e => e))
    clear t2 KW TP BP
    have KA := hid (read_any s 99 w2 (HQ.out.new T2.out id) (by omega) (by decide))
    go_wp2_with fail
    refine Calls.mono (R := fun e w' => ∃ r, Gz.Rd s 0 99 0 r ∧ RPost 28 w2 r e w') KA.out ?_
    rintro e w3 ⟨r, hr, hp⟩
    obtain rfl := HR1.out r hr
    obtain ⟨rfl, t3⟩ := hp
    have T3 := hid ((T2.out.trans t3 (fun _ _ e => e)).alloc (.cells #[.int .i64 12, .int .i64 0] 31))
    have BF := hid (new_block w3 #[.int .i64 12, .int .i64 0] 31)
    clear t3 hr KA HR1 T2
    have haz := aF_size
    go_wp2_with fail
    generalize (w3.alloc (.cells #[.int .i64 12, .int .i64 0] 31)) = w4 at *
    obtain ⟨g, hg⟩ : ∃ g, g = w3.heap.size := ⟨_, rfl⟩
    rw [← hg] at BF ⊢
    clear hg
    have lg := lt_of_block BF.out
    have KB := hid (read_any (aF ++ s) 99 w4 (HQ.out.new T3.out id) (by rw [ByteArray.size_append, haz]; omega) (by decide))
    refine Calls.mono (R := fun e w' => ∃ r, Gz.Rd (aF ++ s) 0 99 0 r ∧ RPost 28 w4 r e w') KB.out ?_
    rintro e w5 ⟨r, hr, hp⟩
    obtain ⟨hr1, hr2⟩ := HR2.out r hr
    clear KB HR2 hr
    by_cases h0 : s.size = 0
    · obtain ⟨l, rfl⟩ := hr1 h0
      obtain ⟨v, rfl, _, t5⟩ := hp
      have T5 := hid (t5.alloc (.cells #[.int .i64 0, .int .i64 0] 31))
      have BG := hid (new_block w5 #[.int .i64 0, .int .i64 0] 31)
      have hse : s = ⟨#[]⟩ := by
        apply ByteArray.ext
        exact Array.eq_empty_of_size_eq_zero h0
      subst hse
      clear t5 hr1 hr2 h0
      go_upto_region 8 with fail
      generalize (w5.alloc (.cells #[.int .i64 0, .int .i64 0] 31)) = w6 at *
      obtain ⟨g2, hg2⟩ : ∃ g2, g2 = w5.heap.size := ⟨_, rfl⟩
      rw [← hg2] at BG ⊢
      clear hg2
      have c0 : w6.cell? ⟨g, 0, none⟩ = some (.int .i64 12) := cell_two0 ((T5.out.block g lg id).trans BF.out)
      have c1 : w6.cell? ⟨g, 1, none⟩ = some (.int .i64 0) := cell_two1 ((T5.out.block g lg id).trans BF.out)
      have d0 : w6.cell? ⟨g2, 0, none⟩ = some (.int .i64 0) := cell_two0 BG.out
      have d1 : w6.cell? ⟨g2, 1, none⟩ = some (.int .i64 0) := cell_two1 BG.out
      go_wp2
      go_ret
      exact ⟨rfl, T3.out.trans T5.out (fun _ _ e => e)⟩
    · obtain rfl := hr2 h0
      obtain ⟨rfl, t5⟩ := hp
      have T5 := hid (t5.alloc (.cells #[.int .i64 12, .int .i64 24] 31))
      have BG := hid (new_block w5 #[.int .i64 12, .int .i64 24] 31)
      have hne : s.toList.isEmpty = false := by
        rw [Bool.eq_false_iff]
        intro e
        rw [List.isEmpty_iff, ByteArray.toList_eq] at e
        have h3 : s.data.toList.length = 0 := by rw [e]; rfl
        rw [ba_len] at h3
        exact h0 h3
      have hne2 : ¬ s.toList = [] := fun e => by rw [e] at hne; exact absurd hne (by decide)
      have hazI : (aF.size : Int) = 24 := by omega
      clear t5 hr1 hr2 h0
      go_upto_region 8 with fail
      generalize (w5.alloc (.cells #[.int .i64 12, .int .i64 24] 31)) = w6 at *
      obtain ⟨g2, hg2⟩ : ∃ g2, g2 = w5.heap.size := ⟨_, rfl⟩
      rw [← hg2] at BG ⊢
      clear hg2
      have c0 : w6.cell? ⟨g, 0, none⟩ = some (.int .i64 12) := cell_two0 ((T5.out.block g lg id).trans BF.out)
      have c1 : w6.cell? ⟨g, 1, none⟩ = some (.int .i64 0) := cell_two1 ((T5.out.block g lg id).trans BF.out)
      have d0 : w6.cell? ⟨g2, 0, none⟩ = some (.int .i64 12) := cell_two0 BG.out
      have d1 : w6.cell? ⟨g2, 1, none⟩ = some (.int .i64 24) := cell_two1 BG.out
      go_wp2
      go_ret
      exact ⟨rfl, T3.out.trans T5.out (fun _ _ e => e)⟩
end Go.Proofs.YtlnpbcpajllkbaaGreatDoor
