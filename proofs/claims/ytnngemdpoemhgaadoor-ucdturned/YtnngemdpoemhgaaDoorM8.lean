/- Texts of this proof, one behind the other: what each says stands ahead of it. -/
import Derived.Test.YtnngemdpoemhgaaDoorM3
import Derived.Test.YtnngemdpoemhgaaDoorM7
import Derived.Test.YtnngemdpoemhgaaDoorM5
import Derived.Test.YtnngemdpoemhgaaDoorM6
/- Has of a set: what it answers; no condition beside those told. -/
namespace Go.Proofs.YtnngemdpoemhgaaDoor
open Go.RowKit

theorem box_new (w : World) (v : Value) (t : TypeId) : (w.alloc (.cells #[v] t)).cell? ⟨w.heap.size, 0, none⟩ = some v := by
  rw [World.cell?_alloc_at _ _ _ _ (by simp)]; rfl

set_option maxRecDepth 100000 in
set_option maxHeartbeats 4000000 in
theorem has_says (a : Option Addr) (cap : Nat) (s : List R2) (r : Int) (w : World) (hl : Rg w a s) (hs : Canon s) :
    Calls Tryd.prog 15 #[.slice a s.length cap, .int .i64 r] w fun e w' => e = .returned (.bool (hasB r s)) ∧ Touch (fun _ => False) w w' := by
  have HL := hid hl
  have HS := hid hs
  have hb := canon_len hs
  have K := hid (fun (wq : World) h1 h2 h3 h4 h5 => search_any (w.heap.size + 1) w.heap.size r a cap s wq h1 h2 h3 h4 h5 (canon_mono hs) (by omega))
  have T2 := hid (((Touch.refl (fun _ => False) w).alloc (.cells #[.slice a s.length cap] 27)).alloc (.cells #[.int .i64 r] 3))
  clear hl hs
  go_enter Tryd.func15, Tryd.ntmps15
  go_wp2_with fail
  have q1 : ((w.alloc (.cells #[.slice a s.length cap] 27)).alloc (.cells #[.int .i64 r] 3)).cell? ⟨w.heap.size, 0, none⟩ = some (.slice a s.length cap) := (((Touch.refl (fun _ => False) _).alloc _).cell (p := ⟨w.heap.size, 0, none⟩) (by simp) id).trans (box_new _ _ _)
  have q2 : ((w.alloc (.cells #[.slice a s.length cap] 27)).alloc (.cells #[.int .i64 r] 3)).cell? ⟨w.heap.size + 1, 0, none⟩ = some (.int .i64 r) := by
    have := box_new (w.alloc (.cells #[.slice a s.length cap] 27)) (.int .i64 r) 3
    rw [show (w.alloc (.cells #[.slice a s.length cap] 27)).heap.size = w.heap.size + 1 by simp] at this
    exact this
  have z2 : w.heap.size + 1 < ((w.alloc (.cells #[.slice a s.length cap] 27)).alloc (.cells #[.int .i64 r] 3)).heap.size := by simp
  generalize ((w.alloc (.cells #[.slice a s.length cap] 27)).alloc (.cells #[.int .i64 r] 3)) = w2 at *
  have z1 : w.heap.size < w2.heap.size := Nat.lt_of_succ_lt z2
  refine (K.out w2 z2 z1 q2 q1 (HL.out.new T2.out)).mono ?_
  rintro e w3 ⟨k, rfl, hk, h1, h2, tc⟩
  have T3 := hid (T2.out.trans tc (fun _ _ e => e))
  have p1 := (tc.cell (p := ⟨w.heap.size, 0, none⟩) z1 id).trans q1
  have p2 := (tc.cell (p := ⟨w.heap.size + 1, 0, none⟩) z2 id).trans q2
  have R3 := hid (HL.out.new T3.out)
  clear tc q1 q2 z1 z2 K
  by_cases hlt : k < s.length
  · have HX := hid (has_at HS.out r k hlt (fun t p q => by have := h1 t p q; omega) (h2 k (Nat.le_refl _) hlt))
    obtain ⟨b, o, ha, hbl, hcell⟩ : ∃ b o, a = some ⟨b, o, none⟩ ∧ b < w3.heap.size ∧ ∀ i (h : i < s.length), w3.cell? ⟨b, o + i * 2, none⟩ = some (.int .i64 (s[i]).1) ∧ w3.cell? ⟨b, o + i * 2 + 1, none⟩ = some (.int .i64 (s[i]).2) := by
      rcases R3.out with h | h
      · rw [h] at hlt; simp at hlt
      · exact h
    subst ha
    obtain ⟨d0, d1⟩ := hcell k hlt
    obtain ⟨x, hx⟩ : ∃ x, x = s[k].1 := ⟨_, rfl⟩
    rw [← hx] at d0 HX
    have hkI : (k : Int) < (s.length : Int) := by omega
    have hd : decide ((k : Int) < (s.length : Int)) = true := decide_eq_true hkI
    clear hcell hx h1 h2 d1
    go_wp2_with fail
    go_quiet (fail)
    go_wp2
    go_ret
    rw [HX.out]
    exact ⟨rfl, T3.out.drewN _⟩
  · have HX := hid (has_none (s := s) r (fun t ht => by have := h1 t (by omega) ht; omega))
    have hd : decide ((k : Int) < (s.length : Int)) = false := decide_eq_false (by omega)
    clear h1 h2
    go_wp2_with fail
    go_quiet (fail)
    go_wp2
    go_ret
    rw [HX.out]
    exact ⟨rfl, T3.out.drewN _⟩
end Go.Proofs.YtnngemdpoemhgaaDoor

/- Size of a set; no condition beside those told. -/
namespace Go.Proofs.YtnngemdpoemhgaaDoor
open Go.RowKit

theorem size_take {s : List R2} (hs : ∀ r ∈ s, inB r) : ∀ k, k ≤ s.length → 0 ≤ sizeL (s.take k) ∧ sizeL (s.take k) ≤ 1114112 * (k : Int)
  | 0, _ => by simp [sizeL]
  | k + 1, h => by
    have h1 := size_take hs k (by omega)
    have h2 := hs s[k] (List.getElem_mem _)
    unfold inB at h2
    rw [List.take_succ_eq_append_getElem (by omega), sizeL_append, sizeL_cons, sizeL_nil]
    omega
theorem size_step {s : List R2} {k : Nat} (h : k < s.length) : sizeL (s.take (k + 1)) = sizeL (s.take k) + ((s[k]).2 - (s[k]).1 + 1) := by
  rw [List.take_succ_eq_append_getElem h, sizeL_append, sizeL_cons, sizeL_nil]
  omega

set_option maxRecDepth 100000 in
set_option maxHeartbeats 4000000 in
theorem size_any (a : Option Addr) (cap : Nat) (s : List R2) (w : World) (hl : Rg w a s) (hs : ∀ r ∈ s, inB r) (hb : s.length ≤ 1048576) :
    Calls Tryd.prog 16 #[.slice a s.length cap] w fun e w' => e = .returned (.int .i64 (sizeL s)) ∧ Touch (fun _ => False) w w' := by
  have HL := hid hl
  have HS := hid hs
  clear hl hs
  go_enter Tryd.func16, Tryd.ntmps16
  go_wp2_with fail
  go_loopg [3, 8] s.length (fun gk n i wr => ∃ k : Nat, k + gk = s.length ∧ i = .int .i64 (k : Nat) ∧ n = .int .i64 (sizeL (s.take k)) ∧ Touch (fun _ => False) w wr)
  case atStart => exact ⟨0, by omega, rfl, rfl, Touch.refl _ _⟩
  case round =>
    obtain ⟨k, hk, rfl, rfl, htc⟩ := hrel
    have TC := hid htc
    have R1 := hid (HL.out.new htc)
    clear htc
    have hsz := size_take HS.out k (by omega)
    by_cases hlt : k < s.length
    · obtain ⟨b, o, ha, hbl, hcell⟩ : ∃ b o, a = some ⟨b, o, none⟩ ∧ b < wr.heap.size ∧ ∀ i (h : i < s.length), wr.cell? ⟨b, o + i * 2, none⟩ = some (.int .i64 (s[i]).1) ∧ wr.cell? ⟨b, o + i * 2 + 1, none⟩ = some (.int .i64 (s[i]).2) := by
        rcases R1.out with h | h
        · rw [h] at hlt; simp at hlt
        · exact h
      subst ha
      obtain ⟨d0, d1⟩ := hcell k hlt
      have hr1 := HS.out s[k] (List.getElem_mem _)
      unfold inB at hr1
      have HST := hid (size_step hlt)
      obtain ⟨r, hr⟩ : ∃ r, r = s[k] := ⟨_, rfl⟩
      rw [← hr] at d0 d1 hr1 HST
      obtain ⟨x, y⟩ := r
      dsimp only at d0 d1 hr1 HST
      obtain ⟨z, hz⟩ : ∃ z, z = sizeL (s.take k) := ⟨_, rfl⟩
      rw [← hz] at HST hsz ⊢
      clear hcell hr R1 hz
      go_wp2_with fail
      go_roundg (gk - 1)
      case measure => omega
      case rel => exact ⟨k + 1, by omega, by go_num, by rw [HST.out], by first | exact (TC.out.alloc _) | exact ((TC.out.alloc _).drewN _)⟩
    · obtain rfl : k = s.length := by omega
      rw [List.take_length]
      go_wp2
      go_ret
      exact ⟨rfl, TC.out⟩

theorem size_says (a : Option Addr) (cap : Nat) (s : List R2) (w : World) (hl : Rg w a s) (hs : Canon s) :
    Calls Tryd.prog 16 #[.slice a s.length cap] w fun e w' => e = .returned (.int .i64 (sizeL s)) ∧ Touch (fun _ => False) w w' :=
  size_any a cap s w hl hs.in_ (by have := canon_len hs; omega)
end Go.Proofs.YtnngemdpoemhgaaDoor

/- UcdTurned, the walk; condition: the two tables lie there. -/
namespace Go.Proofs.YtnngemdpoemhgaaDoor
open Go.RowKit

theorem turned_not {R A B : Prop} (h : A ↔ R ∧ B) {C : Prop} (k : C ↔ R ∧ ¬ B) : C ↔ R ∧ ¬ A := by
  rw [h, k]
  by_cases r : R <;> by_cases b : B <;> simp [r, b]
theorem turned_has {a b : List R2} {r : Int} (hr : 0 ≤ r ∧ r ≤ 1114111) (h : ∀ x, In x b ↔ (0 ≤ x ∧ x ≤ 1114111) ∧ ¬ In x a) : hasB r b = !hasB r a := by
  refine hasB_eq ?_
  rw [h, Bool.not_eq_true', ← Bool.not_eq_true, hasB_iff]
  exact ⟨fun q => q.2, fun q => ⟨hr, q⟩⟩

set_option maxRecDepth 100000 in
set_option maxHeartbeats 8000000 in
theorem ucdTurned_walk (r : Int) (w : World) (ht : Tabs w) : Calls Tryd.prog 6 #[.int .i64 r] w fun e w' => e = .returned (.bool true) ∧ Touch (fun _ => False) w w' := by
  have HT := hid ht
  clear ht
  go_enter Tryd.func6, Tryd.ntmps6
  go_wp2_with fail
  refine (speaks_yes w HT.out).mono ?_
  rintro e w1 ⟨rfl, tc⟩
  have T := hid tc
  clear tc
  go_wp2_with fail
  go_loopg [4] 3 (fun gk i wr => ∃ k : Nat, k + gk = 3 ∧ i = .int .i64 (k : Nat) ∧ Touch (fun _ => False) w wr)
  case atStart => exact ⟨0, rfl, rfl, T.out⟩
  case round =>
    obtain ⟨k, hk, rfl, htc⟩ := hrel
    have TR := hid htc
    clear htc
    rcases (show k = 0 ∨ k = 1 ∨ k = 2 ∨ k = 3 by omega) with rfl | rfl | rfl | rfl
    · go_wp2_with fail
      refine (perl_d wr).mono ?_
      rintro e w2 ⟨v, a, rfl, hca, hia, owa⟩
      have T2 := hid (TR.out.trans owa.touch (fun _ _ e => e))
      obtain ⟨aa, ac, hv, hra⟩ := owa.rg
      subst hv
      have CA := hid hca
      have IA := hid hia
      have RA := hid hra
      have CPA := hid owa.cap
      clear owa hca hia hra
      go_wp2_with fail
      refine (perl_D w2).mono ?_
      rintro e w3 ⟨v, b, rfl, hcb, hib, owb⟩
      have T3 := hid (T2.out.trans owb.touch (fun _ _ e => e))
      obtain ⟨ba, bc, hv, hrb⟩ := owb.rg
      subst hv
      have CB := hid hcb
      have IB := hid (show ∀ x, In x b ↔ (0 ≤ x ∧ x ≤ 1114111) ∧ ¬ In x a from fun x => turned_not (IA.out x) (hib x))
      have RB := hid hrb
      have CPB := hid owb.cap
      replace RA := hid (RA.out.new owb.touch)
      clear owb hcb hib hrb IA
      have b1 := sizeL_pos CA.out
      have b2 := sizeL_pos CB.out
      have ZZ := hid (size_not CA.out CB.out IB.out)
      have hd1 : (sizeL a + sizeL b == 1114112) = true := beq_iff_eq.2 ZZ.out
      have hd3 : (sizeL a + sizeL b != 1114112) = false := by simp [bne, hd1]
      go_wp2_with fail
      refine (size_says aa ac a w3 RA.out CA.out).mono ?_
      rintro e w4 ⟨rfl, tq⟩
      have T4 := hid tq
      clear tq
      go_wp2_with fail
      refine (size_says ba bc b w4 (RB.out.new T4.out) CB.out).mono ?_
      rintro e w5 ⟨rfl, tq⟩
      have T5 := hid (T4.out.trans tq (fun _ _ e => e))
      clear tq
      go_wp2_with fail
      refine (and_says aa ba ac bc a b w5 (RA.out.new T5.out) (RB.out.new T5.out) CPA.out CPB.out CA.out CB.out).mono ?_
      rintro e w6 ⟨v, n, rfl, hcn, hin, own⟩
      obtain rfl : n = [] := canon_one hcn ⟨by simp, .nil⟩ (fun x => by
        rw [hin x, IB.out x]
        exact ⟨fun h => absurd h.1 h.2.2, fun h => absurd h (in_nil x)⟩)
      have T6 := hid (T5.out.trans own.touch (fun _ _ e => e))
      obtain ⟨na, nc, hv, hrn⟩ := own.rg
      subst hv
      have KS := hid (size_says na nc [] w6 hrn ⟨by simp, .nil⟩)
      rw [sizeL_nil] at KS
      clear own hcn hin hrn hd1 hd3 b1 b2
      go_wp2_with fail
      refine KS.out.mono ?_
      rintro e w7 ⟨rfl, tq⟩
      have T7 := hid (T6.out.trans tq (fun _ _ e => e))
      clear tq KS
      rcases Int.lt_or_le r 0 with h0 | h0
      · go_wp2_with fail
        go_roundg (gk - 1)
        case measure => omega
        case rel => exact ⟨0 + 1, by omega, by go_num, T3.out.trans T7.out (fun _ _ e => e)⟩
      · rcases Int.lt_or_le 1114111 r with h1 | h1
        · have hd : decide (r ≤ 1114111) = false := decide_eq_false (by omega)
          go_wp2_with fail
          go_roundg (gk - 1)
          case measure => omega
          case rel => exact ⟨0 + 1, by omega, by go_num, T3.out.trans T7.out (fun _ _ e => e)⟩
        · have HB := hid (turned_has ⟨h0, h1⟩ IB.out)
          obtain ⟨A, hA⟩ : ∃ A, hasB r a = A := ⟨_, rfl⟩
          have K1 := hid (has_says aa ac a r w7 (RA.out.new T7.out) CA.out)
          rw [hA] at K1 HB
          clear hA
          go_wp2_with fail
          refine K1.out.mono ?_
          rintro e w8 ⟨rfl, tq⟩
          have T8 := hid (T7.out.trans tq (fun _ _ e => e))
          clear tq K1
          have K2 := hid (has_says ba bc b r w8 (RB.out.new T8.out) CB.out)
          rw [HB.out] at K2
          go_wp2_with fail
          refine K2.out.mono ?_
          rintro e w9 ⟨rfl, tq⟩
          have T9 := hid (T8.out.trans tq (fun _ _ e => e))
          clear tq K2
          cases A
          · go_wp2_with fail
            go_roundg (gk - 1)
            case measure => omega
            case rel => exact ⟨0 + 1, by omega, by go_num, T3.out.trans T9.out (fun _ _ e => e)⟩
          · go_wp2_with fail
            go_roundg (gk - 1)
            case measure => omega
            case rel => exact ⟨0 + 1, by omega, by go_num, T3.out.trans T9.out (fun _ _ e => e)⟩
    · go_wp2_with fail
      refine (perl_s wr).mono ?_
      rintro e w2 ⟨v, a, rfl, hca, hia, owa⟩
      have T2 := hid (TR.out.trans owa.touch (fun _ _ e => e))
      obtain ⟨aa, ac, hv, hra⟩ := owa.rg
      subst hv
      have CA := hid hca
      have IA := hid hia
      have RA := hid hra
      have CPA := hid owa.cap
      clear owa hca hia hra
      go_wp2_with fail
      refine (perl_S w2).mono ?_
      rintro e w3 ⟨v, b, rfl, hcb, hib, owb⟩
      have T3 := hid (T2.out.trans owb.touch (fun _ _ e => e))
      obtain ⟨ba, bc, hv, hrb⟩ := owb.rg
      subst hv
      have CB := hid hcb
      have IB := hid (show ∀ x, In x b ↔ (0 ≤ x ∧ x ≤ 1114111) ∧ ¬ In x a from fun x => turned_not (IA.out x) (hib x))
      have RB := hid hrb
      have CPB := hid owb.cap
      replace RA := hid (RA.out.new owb.touch)
      clear owb hcb hib hrb IA
      have b1 := sizeL_pos CA.out
      have b2 := sizeL_pos CB.out
      have ZZ := hid (size_not CA.out CB.out IB.out)
      have hd1 : (sizeL a + sizeL b == 1114112) = true := beq_iff_eq.2 ZZ.out
      have hd3 : (sizeL a + sizeL b != 1114112) = false := by simp [bne, hd1]
      go_wp2_with fail
      refine (size_says aa ac a w3 RA.out CA.out).mono ?_
      rintro e w4 ⟨rfl, tq⟩
      have T4 := hid tq
      clear tq
      go_wp2_with fail
      refine (size_says ba bc b w4 (RB.out.new T4.out) CB.out).mono ?_
      rintro e w5 ⟨rfl, tq⟩
      have T5 := hid (T4.out.trans tq (fun _ _ e => e))
      clear tq
      go_wp2_with fail
      refine (and_says aa ba ac bc a b w5 (RA.out.new T5.out) (RB.out.new T5.out) CPA.out CPB.out CA.out CB.out).mono ?_
      rintro e w6 ⟨v, n, rfl, hcn, hin, own⟩
      obtain rfl : n = [] := canon_one hcn ⟨by simp, .nil⟩ (fun x => by
        rw [hin x, IB.out x]
        exact ⟨fun h => absurd h.1 h.2.2, fun h => absurd h (in_nil x)⟩)
      have T6 := hid (T5.out.trans own.touch (fun _ _ e => e))
      obtain ⟨na, nc, hv, hrn⟩ := own.rg
      subst hv
      have KS := hid (size_says na nc [] w6 hrn ⟨by simp, .nil⟩)
      rw [sizeL_nil] at KS
      clear own hcn hin hrn hd1 hd3 b1 b2
      go_wp2_with fail
      refine KS.out.mono ?_
      rintro e w7 ⟨rfl, tq⟩
      have T7 := hid (T6.out.trans tq (fun _ _ e => e))
      clear tq KS
      rcases Int.lt_or_le r 0 with h0 | h0
      · go_wp2_with fail
        go_roundg (gk - 1)
        case measure => omega
        case rel => exact ⟨1 + 1, by omega, by go_num, T3.out.trans T7.out (fun _ _ e => e)⟩
      · rcases Int.lt_or_le 1114111 r with h1 | h1
        · have hd : decide (r ≤ 1114111) = false := decide_eq_false (by omega)
          go_wp2_with fail
          go_roundg (gk - 1)
          case measure => omega
          case rel => exact ⟨1 + 1, by omega, by go_num, T3.out.trans T7.out (fun _ _ e => e)⟩
        · have HB := hid (turned_has ⟨h0, h1⟩ IB.out)
          obtain ⟨A, hA⟩ : ∃ A, hasB r a = A := ⟨_, rfl⟩
          have K1 := hid (has_says aa ac a r w7 (RA.out.new T7.out) CA.out)
          rw [hA] at K1 HB
          clear hA
          go_wp2_with fail
          refine K1.out.mono ?_
          rintro e w8 ⟨rfl, tq⟩
          have T8 := hid (T7.out.trans tq (fun _ _ e => e))
          clear tq K1
          have K2 := hid (has_says ba bc b r w8 (RB.out.new T8.out) CB.out)
          rw [HB.out] at K2
          go_wp2_with fail
          refine K2.out.mono ?_
          rintro e w9 ⟨rfl, tq⟩
          have T9 := hid (T8.out.trans tq (fun _ _ e => e))
          clear tq K2
          cases A
          · go_wp2_with fail
            go_roundg (gk - 1)
            case measure => omega
            case rel => exact ⟨1 + 1, by omega, by go_num, T3.out.trans T9.out (fun _ _ e => e)⟩
          · go_wp2_with fail
            go_roundg (gk - 1)
            case measure => omega
            case rel => exact ⟨1 + 1, by omega, by go_num, T3.out.trans T9.out (fun _ _ e => e)⟩
    · go_wp2_with fail
      refine (perl_w wr).mono ?_
      rintro e w2 ⟨v, a, rfl, hca, hia, owa⟩
      have T2 := hid (TR.out.trans owa.touch (fun _ _ e => e))
      obtain ⟨aa, ac, hv, hra⟩ := owa.rg
      subst hv
      have CA := hid hca
      have IA := hid hia
      have RA := hid hra
      have CPA := hid owa.cap
      clear owa hca hia hra
      go_wp2_with fail
      refine (perl_W w2).mono ?_
      rintro e w3 ⟨v, b, rfl, hcb, hib, owb⟩
      have T3 := hid (T2.out.trans owb.touch (fun _ _ e => e))
      obtain ⟨ba, bc, hv, hrb⟩ := owb.rg
      subst hv
      have CB := hid hcb
      have IB := hid (show ∀ x, In x b ↔ (0 ≤ x ∧ x ≤ 1114111) ∧ ¬ In x a from fun x => turned_not (IA.out x) (hib x))
      have RB := hid hrb
      have CPB := hid owb.cap
      replace RA := hid (RA.out.new owb.touch)
      clear owb hcb hib hrb IA
      have b1 := sizeL_pos CA.out
      have b2 := sizeL_pos CB.out
      have ZZ := hid (size_not CA.out CB.out IB.out)
      have hd1 : (sizeL a + sizeL b == 1114112) = true := beq_iff_eq.2 ZZ.out
      have hd3 : (sizeL a + sizeL b != 1114112) = false := by simp [bne, hd1]
      go_wp2_with fail
      refine (size_says aa ac a w3 RA.out CA.out).mono ?_
      rintro e w4 ⟨rfl, tq⟩
      have T4 := hid tq
      clear tq
      go_wp2_with fail
      refine (size_says ba bc b w4 (RB.out.new T4.out) CB.out).mono ?_
      rintro e w5 ⟨rfl, tq⟩
      have T5 := hid (T4.out.trans tq (fun _ _ e => e))
      clear tq
      go_wp2_with fail
      refine (and_says aa ba ac bc a b w5 (RA.out.new T5.out) (RB.out.new T5.out) CPA.out CPB.out CA.out CB.out).mono ?_
      rintro e w6 ⟨v, n, rfl, hcn, hin, own⟩
      obtain rfl : n = [] := canon_one hcn ⟨by simp, .nil⟩ (fun x => by
        rw [hin x, IB.out x]
        exact ⟨fun h => absurd h.1 h.2.2, fun h => absurd h (in_nil x)⟩)
      have T6 := hid (T5.out.trans own.touch (fun _ _ e => e))
      obtain ⟨na, nc, hv, hrn⟩ := own.rg
      subst hv
      have KS := hid (size_says na nc [] w6 hrn ⟨by simp, .nil⟩)
      rw [sizeL_nil] at KS
      clear own hcn hin hrn hd1 hd3 b1 b2
      go_wp2_with fail
      refine KS.out.mono ?_
      rintro e w7 ⟨rfl, tq⟩
      have T7 := hid (T6.out.trans tq (fun _ _ e => e))
      clear tq KS
      rcases Int.lt_or_le r 0 with h0 | h0
      · go_wp2_with fail
        go_roundg (gk - 1)
        case measure => omega
        case rel => exact ⟨2 + 1, by omega, by go_num, T3.out.trans T7.out (fun _ _ e => e)⟩
      · rcases Int.lt_or_le 1114111 r with h1 | h1
        · have hd : decide (r ≤ 1114111) = false := decide_eq_false (by omega)
          go_wp2_with fail
          go_roundg (gk - 1)
          case measure => omega
          case rel => exact ⟨2 + 1, by omega, by go_num, T3.out.trans T7.out (fun _ _ e => e)⟩
        · have HB := hid (turned_has ⟨h0, h1⟩ IB.out)
          obtain ⟨A, hA⟩ : ∃ A, hasB r a = A := ⟨_, rfl⟩
          have K1 := hid (has_says aa ac a r w7 (RA.out.new T7.out) CA.out)
          rw [hA] at K1 HB
          clear hA
          go_wp2_with fail
          refine K1.out.mono ?_
          rintro e w8 ⟨rfl, tq⟩
          have T8 := hid (T7.out.trans tq (fun _ _ e => e))
          clear tq K1
          have K2 := hid (has_says ba bc b r w8 (RB.out.new T8.out) CB.out)
          rw [HB.out] at K2
          go_wp2_with fail
          refine K2.out.mono ?_
          rintro e w9 ⟨rfl, tq⟩
          have T9 := hid (T8.out.trans tq (fun _ _ e => e))
          clear tq K2
          cases A
          · go_wp2_with fail
            go_roundg (gk - 1)
            case measure => omega
            case rel => exact ⟨2 + 1, by omega, by go_num, T3.out.trans T9.out (fun _ _ e => e)⟩
          · go_wp2_with fail
            go_roundg (gk - 1)
            case measure => omega
            case rel => exact ⟨2 + 1, by omega, by go_num, T3.out.trans T9.out (fun _ _ e => e)⟩
    · go_wp2
      go_ret
      exact ⟨rfl, TR.out⟩
end Go.Proofs.YtnngemdpoemhgaaDoor
