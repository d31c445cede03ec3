/- Texts of this proof, one behind the other: what each says stands ahead of it. -/
import Derived.Test.YtffjkceedbblgaaGreatDoorM0
import Derived.Test.YtffjkceedbblgaaGreatDoorM1
import Derived.WalkKit
import Derived.Deep.LoopGhost
import Derived.Deep.DeepCutAuto
import Derived.Laws.BitsLemmas
import Derived.Test.YtffjkceedbblgaaGreatDoorCards
import Derived.Test.YtffjkceedbblgaaGreatDoorTie
import Derived.ProofKit
import Derived.OpenShut
import Derived.ShutString
import Derived.Below
import Derived.Carry
import Derived.ChangeArms
import Derived.ChangeSame
import Derived.ChangeOld
import Derived.Deep.Slices
import Derived.Lib.SmallJoins
import Derived.Deep.DeepHandedRow
import Derived.Lib.LaidTab
import Derived.SevenTiedAt
import Derived.Test.YtffjkceedbblgaaGreatDoorM15
/- The checksum, plain: by halves of bytes and bit by bit, and that both are the same; that it tells one byte from another. No condition beside those told. -/
namespace Go.Proofs.YtffjkceedbblgaaGreatDoor
namespace Gz

def q16 : List Nat := [0, 498536548, 997073096, 651767980, 1994146192, 1802195444, 1303535960, 1342533948, 3988292384, 4027552580, 3604390888, 3412177804, 2607071920, 2262029012, 2685067896, 3183342108]
def half (c : Nat) : Nat := (c / 16) ^^^ q16.getD (c % 16) 0
def cbyte (c b : Nat) : Nat := half (half (c ^^^ b))
/-- What the sum is behind so many bytes. -/
def crcTo (s : ByteArray) : Nat → Nat
  | 0 => 4294967295
  | i + 1 => cbyte (crcTo s i) (Bt.byteN s i)
def sum (s : ByteArray) : Nat := 4294967295 - crcTo s s.size
/-- One bit. -/
def one (c : Nat) : Nat := (c / 2) ^^^ (if c % 2 = 1 then 3988292384 else 0)
def ones : Nat → Nat → Nat
  | 0, c => c
  | k + 1, c => ones k (one c)

theorem xor_div2 (a b : Nat) : (a ^^^ b) / 2 = (a / 2) ^^^ (b / 2) := by
  have := Nat.shiftRight_xor_distrib (a := a) (b := b) (i := 1)
  simpa [Nat.shiftRight_eq_div_pow] using this
theorem xor_div16 (a b : Nat) : (a ^^^ b) / 16 = (a / 16) ^^^ (b / 16) := by
  have := Nat.shiftRight_xor_distrib (a := a) (b := b) (i := 4)
  simpa [Nat.shiftRight_eq_div_pow] using this
theorem xor_mod2 (a b : Nat) : (a ^^^ b) % 2 = (a % 2 + b % 2) % 2 := by
  have h := Nat.xor_mod_two_eq_one (a := a) (b := b)
  have h2 := Nat.mod_two_eq_zero_or_one (a ^^^ b)
  rcases Nat.mod_two_eq_zero_or_one a with ha | ha <;> rcases Nat.mod_two_eq_zero_or_one b with hb | hb <;> (simp only [ha, hb] at h ⊢; rcases h2 with h2 | h2 <;> simp [h2] at h ⊢)
theorem xr_cancel {a b x : Nat} (h : a ^^^ x = b ^^^ x) : a = b := by
  have h2 := congrArg (· ^^^ x) h
  simpa [Nat.xor_assoc, Nat.xor_self] using h2
theorem xl_cancel {a b x : Nat} (h : x ^^^ a = x ^^^ b) : a = b := xr_cancel (by rw [Nat.xor_comm a x, Nat.xor_comm b x]; exact h)
theorem one_xor (a b : Nat) : one (a ^^^ b) = one a ^^^ one b := by
  unfold one
  rw [xor_div2, xor_mod2]
  rcases Nat.mod_two_eq_zero_or_one a with ha | ha <;> rcases Nat.mod_two_eq_zero_or_one b with hb | hb <;> simp only [ha, hb] <;> simp only [Nat.reduceAdd, Nat.reduceMod, if_true, Nat.zero_ne_one, if_false, Nat.xor_zero]
  · rw [Nat.xor_assoc]
  · rw [Nat.xor_assoc, Nat.xor_assoc, Nat.xor_comm (b / 2)]
  · rw [Nat.xor_assoc, ← Nat.xor_assoc 3988292384, Nat.xor_comm 3988292384 (b / 2), Nat.xor_assoc (b / 2), Nat.xor_self, Nat.xor_zero]
theorem ones_xor : ∀ (k a b : Nat), ones k (a ^^^ b) = ones k a ^^^ ones k b
  | 0, _, _ => rfl
  | k + 1, a, b => by rw [ones, one_xor, ones_xor k, ones, ones]
theorem split16 (c : Nat) : c = (16 * (c / 16)) ^^^ (c % 16) := by
  have h1 : 2 ^ 4 * (c / 16) + c % 16 = 2 ^ 4 * (c / 16) ||| c % 16 := Nat.two_pow_add_eq_or_of_lt (by omega) _
  apply Nat.eq_of_testBit_eq
  intro i
  have h2 : c = 2 ^ 4 * (c / 16) + c % 16 := by omega
  have h16 : (16 : Nat) * (c / 16) = 2 ^ 4 * (c / 16) := by omega
  rw [h16, Nat.testBit_xor]
  conv => lhs; rw [h2]
  rw [Nat.testBit_two_pow_mul_add (c / 16) (show c % 16 < 2 ^ 4 by omega), Nat.testBit_two_pow_mul]
  by_cases hi : i < 4
  · simp [hi, Nat.not_le.2 hi]
  · have h3 : (c % 16).testBit i = false := Nat.testBit_lt_two_pow (Nat.lt_of_lt_of_le (show c % 16 < 2 ^ 4 by omega) (Nat.pow_le_pow_right (by decide) (by omega)))
    simp [hi, h3, Nat.le_of_not_lt hi]
theorem ones4_16 (h : Nat) : ones 4 (16 * h) = h := by
  have e : ∀ x, one (2 * x) = x := fun x => by
    unfold one
    rw [show 2 * x / 2 = x by omega, if_neg (by omega), Nat.xor_zero]
  show one (one (one (one (16 * h)))) = h
  rw [show 16 * h = 2 * (8 * h) by omega, e, show 8 * h = 2 * (4 * h) by omega, e, show 4 * h = 2 * (2 * h) by omega, e, e]
theorem ones4_low : ∀ l : Fin 16, ones 4 l.val = q16.getD l.val 0 := by decide +kernel
theorem half_ones (c : Nat) : half c = ones 4 c := by
  conv => rhs; rw [split16 c]
  rw [ones_xor, ones4_16, ones4_low ⟨c % 16, by omega⟩]
  rfl
theorem ones_add : ∀ (j k c : Nat), ones (j + k) c = ones k (ones j c)
  | 0, k, c => by rw [Nat.zero_add]; rfl
  | j + 1, k, c => by rw [show j + 1 + k = (j + k) + 1 by omega, ones, ones_add j k, ones]
theorem cbyte_ones (c b : Nat) : cbyte c b = ones 8 (c ^^^ b) := by
  unfold cbyte
  rw [half_ones, half_ones, ← ones_add]

theorem q16_lt (i : Nat) : q16.getD i 0 < 2 ^ 32 := by
  by_cases h : i < 16
  · exact (show ∀ l : Fin 16, q16.getD l.val 0 < 2 ^ 32 by decide +kernel) ⟨i, h⟩
  · rw [List.getD_eq_getElem?_getD, List.getElem?_eq_none (by simp [q16]; omega)]
    decide
theorem half_lt {c : Nat} (h : c < 2 ^ 32) : half c < 2 ^ 32 := Nat.xor_lt_two_pow (by omega) (q16_lt _)
theorem cbyte_lt {c b : Nat} (h : c < 2 ^ 32) (hb : b < 256) : cbyte c b < 2 ^ 32 := half_lt (half_lt (Nat.xor_lt_two_pow h (by omega)))
theorem crcTo_lt (s : ByteArray) : ∀ i, crcTo s i < 2 ^ 32
  | 0 => by show 4294967295 < 2 ^ 32; decide
  | i + 1 => cbyte_lt (crcTo_lt s i) (Bt.byteN_lt s i)
theorem sum_lt (s : ByteArray) : sum s < 2 ^ 32 := by unfold sum; omega

/-! ### It tells one byte from another -/
theorem q16_top : ∀ i j : Fin 16, q16.getD i.val 0 / 2 ^ 28 = q16.getD j.val 0 / 2 ^ 28 → i = j := by decide +kernel
theorem half_inj {a b : Nat} (ha : a < 2 ^ 32) (hb : b < 2 ^ 32) (h : half a = half b) : a = b := by
  unfold half at h
  have top : ∀ c, c < 2 ^ 32 → ((c / 16) ^^^ q16.getD (c % 16) 0) / 2 ^ 28 = q16.getD (c % 16) 0 / 2 ^ 28 := fun c hc => by
    have := Nat.shiftRight_xor_distrib (a := c / 16) (b := q16.getD (c % 16) 0) (i := 28)
    simp only [Nat.shiftRight_eq_div_pow] at this
    rw [this, show c / 16 / 2 ^ 28 = 0 by omega, Nat.zero_xor]
  have h1 := top a ha
  have h2 := top b hb
  rw [h] at h1
  have h3 := q16_top ⟨a % 16, by omega⟩ ⟨b % 16, by omega⟩ (h1.symm.trans h2)
  have h4 : a % 16 = b % 16 := congrArg Fin.val h3
  rw [h4] at h
  have h5 : a / 16 = b / 16 := xr_cancel h
  omega
theorem cbyte_inj {a b x : Nat} (ha : a < 2 ^ 32) (hb : b < 2 ^ 32) (hx : x < 256) (h : cbyte a x = cbyte b x) : a = b := by
  unfold cbyte at h
  have hxa : a ^^^ x < 2 ^ 32 := Nat.xor_lt_two_pow ha (by omega)
  have hxb : b ^^^ x < 2 ^ 32 := Nat.xor_lt_two_pow hb (by omega)
  exact xr_cancel (half_inj hxa hxb (half_inj (half_lt hxa) (half_lt hxb) h))
theorem cbyte_byte {a x y : Nat} (ha : a < 2 ^ 32) (hx : x < 256) (hy : y < 256) (h : cbyte a x = cbyte a y) : x = y := by
  unfold cbyte at h
  have hxa : a ^^^ x < 2 ^ 32 := Nat.xor_lt_two_pow ha (by omega)
  have hxb : a ^^^ y < 2 ^ 32 := Nat.xor_lt_two_pow ha (by omega)
  exact xl_cancel (half_inj hxa hxb (half_inj (half_lt hxa) (half_lt hxb) h))
/-- Texts of one length that differ at one place alone have two sums. -/
theorem sum_tells {s t : ByteArray} (hz : s.size = t.size) (k : Nat) (hk : k < s.size) (hne : Bt.byteN s k ≠ Bt.byteN t k) (heq : ∀ i, i ≠ k → Bt.byteN s i = Bt.byteN t i) : sum s ≠ sum t := by
  have pre : ∀ i, i ≤ k → crcTo s i = crcTo t i := by
    intro i
    induction i with
    | zero => intro _; rfl
    | succ i ih =>
      intro hi
      rw [crcTo, crcTo, ih (by omega), heq i (by omega)]
  have post : ∀ i, k < i → crcTo s i ≠ crcTo t i := by
    intro i
    induction i with
    | zero => intro h; omega
    | succ i ih =>
      intro hi e
      rw [crcTo, crcTo] at e
      by_cases hik : i = k
      · subst hik
        rw [pre i (Nat.le_refl _)] at e
        exact hne (cbyte_byte (crcTo_lt t i) (Bt.byteN_lt s i) (Bt.byteN_lt t i) e)
      · rw [heq i hik] at e
        exact ih (by omega) (cbyte_inj (crcTo_lt s i) (crcTo_lt t i) (Bt.byteN_lt t i) e)
  intro e
  unfold sum at e
  have h1 := crcTo_lt s s.size
  have h2 := crcTo_lt t t.size
  have h3 : crcTo s s.size = crcTo t t.size := by omega
  rw [← hz] at h3
  exact post s.size hk h3
end Gz
end Go.Proofs.YtffjkceedbblgaaGreatDoor

/- The checksum: Sum and lowSum of any text; conditions: those told. -/
namespace Go.Proofs.YtffjkceedbblgaaGreatDoor
open Go.RowKit

def quartC : Array Value := #[.int .u32 0, .int .u32 498536548, .int .u32 997073096, .int .u32 651767980, .int .u32 1994146192, .int .u32 1802195444, .int .u32 1303535960, .int .u32 1342533948, .int .u32 3988292384, .int .u32 4027552580, .int .u32 3604390888, .int .u32 3412177804, .int .u32 2607071920, .int .u32 2262029012, .int .u32 2685067896, .int .u32 3183342108]
/-- The table lies where it was laid. -/
def Quart (w : World) : Prop := ∃ t, w.heap[0]? = some (.cells quartC t (0, 0))
theorem Quart.new {w w' : World} {S : Nat → Prop} (h : Quart w) (t : Touch S w w') (h0 : ¬ S 0) : Quart w' := by
  obtain ⟨ty, h⟩ := h
  exact ⟨ty, (t.block 0 (lt_of_block h) h0).trans h⟩
theorem quart_at : ∀ i : Fin 16, quartC[i.val]? = some (.int .u32 ((Gz.q16.getD i.val 0 : Nat) : Int)) := by
  intro i
  have : ∀ j, j < 16 → quartC[j]? = some (.int .u32 ((Gz.q16.getD j 0 : Nat) : Int)) := by
    intro j hj
    rcases (show j = 0 ∨ j = 1 ∨ j = 2 ∨ j = 3 ∨ j = 4 ∨ j = 5 ∨ j = 6 ∨ j = 7 ∨ j = 8 ∨ j = 9 ∨ j = 10 ∨ j = 11 ∨ j = 12 ∨ j = 13 ∨ j = 14 ∨ j = 15 by omega) with h | h | h | h | h | h | h | h | h | h | h | h | h | h | h | h <;> subst h <;> rfl
  exact this i.val i.isLt
theorem Quart.cell {w : World} (h : Quart w) (i : Nat) (hi : i < 16) : w.cell? ⟨0, i, none⟩ = some (.int .u32 ((Gz.q16.getD i 0 : Nat) : Int)) := by
  obtain ⟨t, h⟩ := h
  simp only [World.cell?, h, Option.isSome_none, Bool.false_eq_true, if_false]
  exact quart_at ⟨i, hi⟩
theorem u32_xor (a b : Nat) (ha : a < 2 ^ 32) (hb : b < 2 ^ 32) : bits .xor .u32 (a : Int) (b : Int) = ((a ^^^ b : Nat) : Int) := by
  have hx := Nat.xor_lt_two_pow ha hb
  show IntKind.u32.wrap ((BitVec.ofInt 32 (a : Int) ^^^ BitVec.ofInt 32 (b : Int)).toNat : Int) = _
  rw [BitVec.toNat_xor, BitVec.ofInt_natCast, BitVec.ofInt_natCast, BitVec.toNat_ofNat, BitVec.toNat_ofNat, Nat.mod_eq_of_lt ha, Nat.mod_eq_of_lt hb, IntKind.wrap_u32]
  omega
theorem u32_not (c : Nat) (hc : c < 2 ^ 32) : bits .xor .u32 IntKind.u32.max (c : Int) = ((4294967295 - c : Nat) : Int) := by
  have h1 : IntKind.u32.max = ((4294967295 : Nat) : Int) := by decide
  have h2 : 4294967295 ^^^ c = 4294967295 - c := by
    apply Nat.eq_of_testBit_eq
    intro i
    have e1 : 4294967295 - c = 2 ^ 32 - (c + 1) := by omega
    have e2 : (4294967295 : Nat) = 2 ^ 32 - 1 := by decide
    rw [e1, Nat.testBit_two_pow_sub_succ hc, Nat.testBit_xor, e2, Nat.testBit_two_pow_sub_one]
    by_cases hi : i < 32
    · simp [hi]
    · have h3 : c.testBit i = false := Nat.testBit_lt_two_pow (Nat.lt_of_lt_of_le hc (Nat.pow_le_pow_right (by decide) (by omega)))
      simp [hi, h3]
  rw [h1, u32_xor 4294967295 c (by decide) hc, h2]
set_option maxRecDepth 100000 in
set_option maxHeartbeats 4000000 in
/-- Sum, of any text. -/
theorem sum_any (s : ByteArray) (hs : s.size ≤ 140737488355328) (w : World) (hq : Quart w) :
    Calls Tryz.prog 10 #[.string s] w fun e w' => e = .returned (.int .i64 ((Gz.sum s : Nat) : Int)) ∧ w = w' := by
  have HQ := hid hq
  clear hq
  go_enter Tryz.func10, Tryz.ntmps10
  go_wp2_with fail
  go_loopg [3, 7] s.size (fun gk v3 v7 wq => ∃ i : Nat, i + gk = s.size ∧ v7 = .int .i64 (i : Nat) ∧ v3 = .int .u32 ((Gz.crcTo s i : Nat) : Int) ∧ w = wq)
  case atStart => exact ⟨0, by omega, rfl, rfl, rfl⟩
  case round =>
    obtain ⟨i, hi, rfl, rfl, rfl⟩ := hrel
    by_cases hlt : i < s.size
    · obtain ⟨gk, rfl⟩ : ∃ j, gk = j + 1 := ⟨gk - 1, by omega⟩
      have hltI : (i : Int) < (s.size : Int) := by omega
      have hbg := byte_get s i hlt
      have hb := Bt.byteN_lt s i
      have hc := Gz.crcTo_lt s i
      have HN := hid (show Gz.crcTo s (i + 1) = Gz.cbyte (Gz.crcTo s i) (Bt.byteN s i) from rfl)
      generalize Gz.crcTo s i = c at *
      generalize Bt.byteN s i = b at *
      have hx0 := u32_xor c b hc (by omega)
      have hlt0 : c ^^^ b < 2 ^ 32 := Nat.xor_lt_two_pow hc (by omega)
      obtain ⟨d, hd⟩ : ∃ d, d = c ^^^ b := ⟨_, rfl⟩
      rw [← hd] at hx0 hlt0
      have hq1 := HQ.out.cell (d % 16) (by omega)
      have hx1 := u32_xor (d / 16) (Gz.q16.getD (d % 16) 0) (by omega) (Gz.q16_lt _)
      have hlt1 : Gz.half d < 2 ^ 32 := Gz.half_lt hlt0
      have hh1 : d / 16 ^^^ Gz.q16.getD (d % 16) 0 = Gz.half d := rfl
      rw [hh1, show ((d / 16 : Nat) : Int) = (d : Int) / 16 by omega] at hx1
      obtain ⟨e, he⟩ : ∃ e, e = Gz.half d := ⟨_, rfl⟩
      rw [← he] at hx1 hlt1
      have hq2 := HQ.out.cell (e % 16) (by omega)
      have hx2 := u32_xor (e / 16) (Gz.q16.getD (e % 16) 0) (by omega) (Gz.q16_lt _)
      have hh2 : e / 16 ^^^ Gz.q16.getD (e % 16) 0 = Gz.half e := rfl
      rw [hh2, show ((e / 16 : Nat) : Int) = (e : Int) / 16 by omega] at hx2
      replace HN := hid (show Gz.crcTo s (i + 1) = Gz.half e by rw [HN.out, he, hd]; rfl)
      generalize Gz.q16.getD (d % 16) 0 = q1 at *
      generalize Gz.q16.getD (e % 16) 0 = q2 at *
      clear hh1 hh2 hd he
      go_wp2
      go_roundg gk
      case measure => omega
      case rel => exact ⟨i + 1, by omega, by go_num, by rw [HN.out], rfl⟩
    · have hltI : ¬ ((i : Int) < (s.size : Int)) := by omega
      have hc := Gz.crcTo_lt s i
      obtain rfl : i = s.size := by omega
      have HE := hid (show Gz.sum s = 4294967295 - Gz.crcTo s s.size from rfl)
      generalize Gz.crcTo s s.size = c at *
      have hx := u32_not c hc
      obtain ⟨n, hn⟩ : ∃ n, n = 4294967295 - c := ⟨_, rfl⟩
      rw [← hn] at hx HE
      have hn2 : n < 4294967296 := by omega
      clear hn
      go_wp2
      go_ret
      refine ⟨?_, rfl⟩
      rw [HE.out]
      show Ending.returned (.int .i64 (wrap64 (n : Int))) = _
      rw [show wrap64 (n : Int) = (n : Int) by unfold wrap64; omega]
theorem i64_and_nat (a b : Nat) (ha : a < 2 ^ 62) (hb : b < 2 ^ 62) : bits .and .i64 (a : Int) (b : Int) = ((a &&& b : Nat) : Int) :=
  (bits_nat .i64 62 (by decide) (fun n h0 h1 => by rw [IntKind.wrap_i64]; omega) a b ha hb).1
set_option maxRecDepth 100000 in
theorem lowSum_any (s : ByteArray) (hs : s.size ≤ 140737488355328) (w : World) (hq : Quart w) :
    Calls Tryz.prog 26 #[.string s] w fun e w' => e = .returned (.int .i64 ((Gz.sum s % 65536 : Nat) : Int)) ∧ w = w' := by
  have K := hid (sum_any s hs w hq)
  have hl := Gz.sum_lt s
  have ha := i64_and_nat (Gz.sum s) 65535 (by omega) (by decide)
  rw [show (65535 : Nat) = 2 ^ 16 - 1 by decide, Nat.and_two_pow_sub_one_eq_mod] at ha
  generalize Gz.sum s = c at *
  go_enter Tryz.func26, Tryz.ntmps26
  go_wp2_with fail
  refine K.out.mono ?_
  rintro e w1 ⟨rfl, rfl⟩
  clear K
  go_wp2
  go_ret
  exact ⟨by first | rfl | (rw [← ha]; rfl), rfl⟩
end Go.Proofs.YtffjkceedbblgaaGreatDoor

/- What the frames of the gz laws lean on: the table of the sums; no condition. -/
namespace Go.Proofs.YtffjkceedbblgaaGreatDoor
open Go.ChangeShapes Go.WideShapes Go.ChangeAt Go.RowKit Go.Deep Go.Joins

theorem own : ownKnob Tryz.prog.godebug = none := by kernel_rfl
theorem gQuart : Tryz.prog.globalNamed "ferret/gz.quarters" = some 0 := by kernel_rfl
theorem yQuart : (Tryz.prog.globals[0]?).map (·.type) = some 61 := by kernel_rfl
theorem tcU : Tryz.prog.cellsOf 59 = 1 := by kernel_rfl
theorem tcQ : Tryz.prog.cellsOf 61 = 16 := by kernel_rfl
set_option maxRecDepth 100000 in
theorem quart_of {W : World} (h : laidMet Tryz.prog [("ferret/gz.quarters", Rows.laid_ferret_gz_quarters)] W) : Quart W := by
  obtain ⟨ps, ⟨g, t, cs, fuel, p, q, hg, ht, hvar, hd, _, rfl⟩, _, hfree⟩ := h
  obtain rfl := Option.some.inj (gQuart.symm.trans hg)
  obtain rfl := Option.some.inj (yQuart.symm.trans ht)
  have e1 : cs = quartC := by
    have := Lib.cells_of_tab (k := .u32) (zs := [0, 498536548, 997073096, 651767980, 1994146192, 1802195444, 1303535960, 1342533948, 3988292384, 4027552580, 3604390888, 3412177804, 2607071920, 2262029012, 2685067896, 3183342108]) Tryz.underlying61 Tryz.underlying59 tcU tcQ hd
    cases cs
    simpa [quartC] using congrArg List.toArray this
  subst e1
  unfold World.var? at hvar
  rw [gQuart] at hvar
  simp only [Option.bind_some] at hvar
  obtain ⟨⟨cc, tt, hh⟩, _⟩ := hfree 0 0 (by simp [MemPlace.row, quartC])
  rw [hh] at hvar
  simp only [Option.some.injEq] at hvar
  subst hvar
  exact ⟨tt, hh⟩
/-- A block that holds other cells. -/
def setC (cs : Array Value) : Obj → Obj
  | .cells _ t frozen => .cells cs t frozen
  | o => o
/-- A world for the witness: the settled one, the table holding what its initialiser lays. -/
noncomputable def laidWorld (os : Os) : World :=
  { World.holding Tryz.prog os ⟨#[], #[], []⟩ with heap := (World.holding Tryz.prog os ⟨#[], #[], []⟩).heap.modify 0 (setC quartC) }
end Go.Proofs.YtffjkceedbblgaaGreatDoor

/- toldBy of an unpacker: what a symbol tells; no condition beside those told. -/
namespace Go.Proofs.YtffjkceedbblgaaGreatDoor
open Go.RowKit Go.Lib

theorem toldBy_none (ub : Nat) (a : Option Addr) (cap : Nat) (w : World) :
    Calls Tryz.prog 106 #[.pointer (some ⟨ub, 0, none⟩), .int .i64 (16 : Nat), .slice a 0 cap] w fun e w' => e = .returned (.tuple #[.int .i64 0, .int .i64 0, .int .i64 5]) ∧ w' = w := by
  go_enter Tryz.func106, Tryz.ntmps106
  go_wp2
  go_ret3
  exact ⟨rfl, rfl⟩

/-- What is told, and what the reader has taken then. -/
def TdPost (s : ByteArray) (t i : Nat) (told : List Nat) (r : Nat) (w : World) (e : Ending) (w' : World) : Prop :=
  (t + Inf.moreBits i ≤ 8 * s.size ∧ e = .returned (.tuple #[.int .i64 (Inf.valT i told : Nat), .int .i64 (Inf.leastT i + Bt.rval s t (Inf.moreBits i) : Nat), .int .i64 0]) ∧ RStep w w' r s (t + Inf.moreBits i)) ∨
  (8 * s.size < t + Inf.moreBits i ∧ (∃ x y : Int, e = .returned (.tuple #[.int .i64 x, .int .i64 y, .int .i64 3])) ∧ RStep w w' r s t)

theorem rval_32 (s : ByteArray) (t n : Nat) (h : n ≤ 13) : Bt.rval s t n < 8192 := rval_13 s t n h

set_option maxRecDepth 100000 in
set_option maxHeartbeats 4000000 in
theorem toldBy_17 (ub r : Nat) (v : Value) (out : List Nat) (most : Int) (tl td : Option Addr) (s : ByteArray) (t : Nat) (told : List Nat) (a : Option Addr) (cap : Nat) (w : World) (h : Up w ub r v out most tl td) (hr : Rd w r s t) (hs : s.size ≤ 140737488351232) (ht : t ≤ 8 * s.size) :
    Calls Tryz.prog 106 #[.pointer (some ⟨ub, 0, none⟩), .int .i64 (17 : Nat), .slice a told.length cap] w (TdPost s t 17 told r w) := by
  obtain ⟨c0, _, _, _, _⟩ := up_cells h
  have hrv := rval_32 s t 3 (by decide)
  have HB := hid (show Inf.moreBits 17 = 3 from rfl)
  have HL := hid (show Inf.leastT 17 = 3 from rfl)
  have HV := hid (show Inf.valT 17 told = 0 from rfl)
  by_cases hfit : t + 3 ≤ 8 * s.size
  · have K := hid (take_yes r s t 3 w hr (by omega) (by decide) hfit)
    obtain ⟨x, hx⟩ : ∃ x, x = Bt.rval s t 3 := ⟨_, rfl⟩
    rw [← hx] at K hrv
    have HX := hid hx
    clear hx h hr
    go_enter Tryz.func106, Tryz.ntmps106
    go_wp2_with fail
    refine K.out.mono ?_
    rintro e w1 ⟨rfl, st⟩
    have ST := hid st
    clear st K
    go_wp2
    go_ret3
    refine .inl ⟨by rw [HB.out]; exact hfit, ?_, by rw [HB.out]; exact ST.out⟩
    rw [HB.out, HL.out, HV.out, ← HX.out, show ((3 + x : Nat) : Int) = 3 + (x : Int) by omega]
    rfl
  · have K := hid (take_end r s t 3 w hr (by omega) (by decide) ht (by omega))
    have HR := hid hr
    clear h hr
    go_enter Tryz.func106, Tryz.ntmps106
    go_wp2_with fail
    refine K.out.mono ?_
    rintro e w1 ⟨rfl, st⟩
    have ST := hid (st.rstep HR.out)
    clear st K
    go_wp2
    go_ret3
    exact .inr ⟨by rw [HB.out]; omega, ⟨_, _, rfl⟩, ST.out⟩

set_option maxRecDepth 100000 in
set_option maxHeartbeats 4000000 in
theorem toldBy_18 (ub r : Nat) (v : Value) (out : List Nat) (most : Int) (tl td : Option Addr) (s : ByteArray) (t : Nat) (told : List Nat) (a : Option Addr) (cap : Nat) (w : World) (h : Up w ub r v out most tl td) (hr : Rd w r s t) (hs : s.size ≤ 140737488351232) (ht : t ≤ 8 * s.size) :
    Calls Tryz.prog 106 #[.pointer (some ⟨ub, 0, none⟩), .int .i64 (18 : Nat), .slice a told.length cap] w (TdPost s t 18 told r w) := by
  obtain ⟨c0, _, _, _, _⟩ := up_cells h
  have hrv := rval_32 s t 7 (by decide)
  have HB := hid (show Inf.moreBits 18 = 7 from rfl)
  have HL := hid (show Inf.leastT 18 = 11 from rfl)
  have HV := hid (show Inf.valT 18 told = 0 from rfl)
  by_cases hfit : t + 7 ≤ 8 * s.size
  · have K := hid (take_yes r s t 7 w hr (by omega) (by decide) hfit)
    obtain ⟨x, hx⟩ : ∃ x, x = Bt.rval s t 7 := ⟨_, rfl⟩
    rw [← hx] at K hrv
    have HX := hid hx
    clear hx h hr
    go_enter Tryz.func106, Tryz.ntmps106
    go_wp2_with fail
    refine K.out.mono ?_
    rintro e w1 ⟨rfl, st⟩
    have ST := hid st
    clear st K
    go_wp2
    go_ret3
    refine .inl ⟨by rw [HB.out]; exact hfit, ?_, by rw [HB.out]; exact ST.out⟩
    rw [HB.out, HL.out, HV.out, ← HX.out, show ((11 + x : Nat) : Int) = 11 + (x : Int) by omega]
    rfl
  · have K := hid (take_end r s t 7 w hr (by omega) (by decide) ht (by omega))
    have HR := hid hr
    clear h hr
    go_enter Tryz.func106, Tryz.ntmps106
    go_wp2_with fail
    refine K.out.mono ?_
    rintro e w1 ⟨rfl, st⟩
    have ST := hid (st.rstep HR.out)
    clear st K
    go_wp2
    go_ret3
    exact .inr ⟨by rw [HB.out]; omega, ⟨_, _, rfl⟩, ST.out⟩

set_option maxRecDepth 100000 in
set_option maxHeartbeats 4000000 in
theorem toldBy_other (ub r : Nat) (v : Value) (out : List Nat) (most : Int) (tl td : Option Addr) (s : ByteArray) (t i : Nat) (told : List Nat) (a : Option Addr) (cap : Nat) (w : World) (h : Up w ub r v out most tl td) (hr : Rd w r s t) (hs : s.size ≤ 140737488351232) (ht : t ≤ 8 * s.size) (hi : i ≠ 16 ∧ i ≠ 17 ∧ i ≠ 18) :
    Calls Tryz.prog 106 #[.pointer (some ⟨ub, 0, none⟩), .int .i64 (i : Nat), .slice a told.length cap] w (TdPost s t i told r w) := by
  obtain ⟨c0, _, _, _, _⟩ := up_cells h
  have hrv := rval_32 s t 0 (by decide)
  have HB := hid (show Inf.moreBits i = 0 by unfold Inf.moreBits; rw [if_neg hi.1, if_neg hi.2.1, if_neg hi.2.2])
  have HL := hid (show Inf.leastT i = 1 by unfold Inf.leastT; rw [if_neg hi.1, if_neg hi.2.1, if_neg hi.2.2])
  have HV := hid (show Inf.valT i told = i by unfold Inf.valT; rw [if_neg hi.1, if_neg hi.2.1, if_neg hi.2.2])
  have e16 : ((i : Int) == 16) = false := by simp; omega
  have e17 : ((i : Int) == 17) = false := by simp; omega
  have e18 : ((i : Int) == 18) = false := by simp; omega
  clear hi
  by_cases hfit : t + 0 ≤ 8 * s.size
  · have K := hid (take_yes r s t 0 w hr (by omega) (by decide) hfit)
    obtain ⟨x, hx⟩ : ∃ x, x = Bt.rval s t 0 := ⟨_, rfl⟩
    rw [← hx] at K hrv
    have HX := hid hx
    clear hx h hr
    go_enter Tryz.func106, Tryz.ntmps106
    go_wp2_with fail
    refine K.out.mono ?_
    rintro e w1 ⟨rfl, st⟩
    have ST := hid st
    clear st K
    go_wp2
    go_ret3
    refine .inl ⟨by rw [HB.out]; exact hfit, ?_, by rw [HB.out]; exact ST.out⟩
    rw [HB.out, HL.out, HV.out, ← HX.out, show ((1 + x : Nat) : Int) = 1 + (x : Int) by omega]
    rfl
  · exact absurd ht (by omega)

set_option maxRecDepth 100000 in
set_option maxHeartbeats 4000000 in
theorem toldBy_16 (ub r : Nat) (v : Value) (out : List Nat) (most : Int) (tl td : Option Addr) (s : ByteArray) (t : Nat) (told : List Nat) (a : Option Addr) (cap : Nat) (w : World) (h : Up w ub r v out most tl td) (hr : Rd w r s t) (hs : s.size ≤ 140737488351232) (ht : t ≤ 8 * s.size) (hI : Ints w a told.length (fun j => ((told.getD j 0 : Nat) : Int))) (h0 : told.length ≠ 0) (hlen : told.length ≤ 100000) :
    Calls Tryz.prog 106 #[.pointer (some ⟨ub, 0, none⟩), .int .i64 (16 : Nat), .slice a told.length cap] w (TdPost s t 16 told r w) := by
  obtain ⟨c0, _, _, _, _⟩ := up_cells h
  have hrv := rval_32 s t 2 (by decide)
  have HB := hid (show Inf.moreBits 16 = 2 from rfl)
  have HL := hid (show Inf.leastT 16 = 3 from rfl)
  obtain ⟨y, hy⟩ : ∃ y, y = told.getD (told.length - 1) 0 := ⟨_, rfl⟩
  have HV := hid (show Inf.valT 16 told = y by rw [hy]; rfl)
  obtain ⟨b, o, ha, hb, hcell⟩ : ∃ b o, a = some ⟨b, o, none⟩ ∧ b < w.heap.size ∧ ∀ i, i < told.length → w.cell? ⟨b, o + i, none⟩ = some (.int .i64 ((told.getD i 0 : Nat) : Int)) := by
    rcases hI with h | h
    · exact absurd h h0
    · exact h
  subst ha
  have hlast := hcell (told.length - 1) (by omega)
  rw [← hy] at hlast
  obtain ⟨m, hm⟩ : ∃ m, told.length = m + 1 := ⟨told.length - 1, by omega⟩
  rw [hm, show m + 1 - 1 = m by omega] at hlast
  rw [hm]
  have hne : (((m + 1 : Nat) : Int) == 0) = false := by simp; omega
  clear hcell hI h0 hy
  by_cases hfit : t + 2 ≤ 8 * s.size
  · have K := hid (take_yes r s t 2 w hr (by omega) (by decide) hfit)
    obtain ⟨x, hx⟩ : ∃ x, x = Bt.rval s t 2 := ⟨_, rfl⟩
    rw [← hx] at K hrv
    have HX := hid hx
    clear hx h hr
    go_enter Tryz.func106, Tryz.ntmps106
    go_wp2_with fail
    refine K.out.mono ?_
    rintro e w1 ⟨rfl, st⟩
    have ST := hid st
    clear st K
    go_wp2
    go_ret3
    refine .inl ⟨by rw [HB.out]; exact hfit, ?_, by rw [HB.out]; exact ST.out⟩
    rw [HB.out, HL.out, HV.out, ← HX.out, show ((3 + x : Nat) : Int) = 3 + (x : Int) by omega]
    rfl
  · have K := hid (take_end r s t 2 w hr (by omega) (by decide) ht (by omega))
    have HR := hid hr
    clear h hr
    go_enter Tryz.func106, Tryz.ntmps106
    go_wp2_with fail
    refine K.out.mono ?_
    rintro e w1 ⟨rfl, st⟩
    have ST := hid (st.rstep HR.out)
    clear st K
    go_wp2
    go_ret3
    exact .inr ⟨by rw [HB.out]; omega, ⟨_, _, rfl⟩, ST.out⟩

theorem toldBy_any (ub r : Nat) (v : Value) (out : List Nat) (most : Int) (tl td : Option Addr) (s : ByteArray) (t i : Nat) (told : List Nat) (a : Option Addr) (cap : Nat) (w : World) (h : Up w ub r v out most tl td) (hr : Rd w r s t) (hs : s.size ≤ 140737488351232) (ht : t ≤ 8 * s.size)
    (hI : Ints w a told.length (fun j => ((told.getD j 0 : Nat) : Int))) (h0 : ¬ (i = 16 ∧ told.length = 0)) (hlen : told.length ≤ 100000) :
    Calls Tryz.prog 106 #[.pointer (some ⟨ub, 0, none⟩), .int .i64 (i : Nat), .slice a told.length cap] w (TdPost s t i told r w) := by
  by_cases h16 : i = 16
  · subst h16
    exact toldBy_16 ub r v out most tl td s t told a cap w h hr hs ht hI (fun e => h0 ⟨rfl, e⟩) hlen
  by_cases h17 : i = 17
  · subst h17
    exact toldBy_17 ub r v out most tl td s t told a cap w h hr hs ht
  by_cases h18 : i = 18
  · subst h18
    exact toldBy_18 ub r v out most tl td s t told a cap w h hr hs ht
  exact toldBy_other ub r v out most tl td s t i told a cap w h hr hs ht ⟨h16, h17, h18⟩
end Go.Proofs.YtffjkceedbblgaaGreatDoor
