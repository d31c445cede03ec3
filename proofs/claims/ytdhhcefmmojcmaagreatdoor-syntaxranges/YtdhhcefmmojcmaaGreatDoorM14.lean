/- Texts of this proof, one behind the other: what each says stands ahead of it. -/
import Derived.Test.YtdhhcefmmojcmaaGreatDoorM13
import Derived.Lib.AtoiAll
import Derived.Deep.RegionWith
import Derived.OwnWalk
/- A parser of patterns, plain: words of ASCII as bytes, and their numbers; no condition. -/
namespace Go.Proofs.YtdhhcefmmojcmaaGreatDoor
open Go.RowKit
open Go.Lib

theorem run_all {R : List Int} {p : Int → Bool} : ∀ (n k : Nat) (c : Int), c ∈ runF R p n k → p c = true
  | 0, k, c, h => by simp [runF] at h
  | n + 1, k, c, h => by
    rw [runF] at h
    split at h
    · rename_i hp
      rcases List.mem_cons.1 h with rfl | h
      · exact hp
      · exact run_all n (k + 1) c h
    · simp at h
theorem run_len {R : List Int} {p : Int → Bool} (n k : Nat) : (runF R p n k).length ≤ n := by
  induction n generalizing k with
  | zero => simp [runF]
  | succ n ih =>
    rw [runF]
    split
    · simp only [List.length_cons]; have := ih (k + 1); omega
    · simp
theorem extract_snoc (s : ByteArray) (a b : Nat) (c : UInt8) (h : a ≤ b) (hc : s.data.toList[b]? = some c) : (s.extract a (b + 1)).data.toList = (s.extract a b).data.toList ++ [c] := by
  rw [ByteArray.data_extract, ByteArray.data_extract, Array.toList_extract, Array.toList_extract]
  simp only [List.extract_eq_take_drop]
  have hb : b < s.data.toList.length := (List.getElem?_eq_some_iff.1 hc).1
  rw [show b + 1 - a = (b - a) + 1 by omega, List.take_add_one, List.getElem?_drop, show a + (b - a) = b by omega, hc]
  rfl
/-- The bytes of a row of ASCII. -/
theorem cut_list {X : Px} (h : X.Good) (k : Nat) : ∀ (n : Nat), k + n ≤ X.R.length → (∀ i, i < n → lkR X.R (k + i) < 128) →
    lkR X.P (k + n) = lkR X.P k + (n : Int) ∧ (X.s.extract (lkR X.P k).toNat (lkR X.P k + (n : Int)).toNat).data.toList = ((X.R.drop k).take n).map (fun c => UInt8.ofNat c.toNat)
  | 0, hk, _ => by
    refine ⟨by simp, ?_⟩
    simp
  | n + 1, hk, ha => by
    obtain ⟨e1, e2⟩ := cut_list h k n (by omega) (fun i hi => ha i (by omega))
    have l0 : k + n < X.R.length := by omega
    have l1 : k + n < X.P.length := by have := h.lenP; omega
    have l2 : k + n + 1 < X.P.length := by have := h.lenP; omega
    have hlt := ha n (by omega)
    rw [lk_at l0] at hlt
    obtain ⟨g1, g2⟩ := h.ascii (k + n) l0 l1 l2 hlt
    rw [lk_at l1] at e1
    obtain ⟨a, ea, _⟩ := h.at_nat (i := k) (by omega)
    rw [ea] at e1 e2 ⊢
    rw [show k + (n + 1) = k + n + 1 by omega, lk_at l2]
    refine ⟨by omega, ?_⟩
    rw [show X.P[k + n].toNat = a + n by omega] at g2
    have := extract_snoc X.s a (a + n) _ (by omega) g2
    rw [show ((a : Int) + ((n + 1 : Nat) : Int)).toNat = a + n + 1 by omega, show ((a : Nat) : Int).toNat = a by omega, this]
    rw [show ((a : Int) + (n : Int)).toNat = a + n by omega, show ((a : Nat) : Int).toNat = a by omega] at e2
    rw [e2, List.take_add_one, List.getElem?_drop, List.getElem?_eq_getElem l0]
    simp
theorem run_drop {R : List Int} {p : Int → Bool} (hp : p (-1) = false) : ∀ (n k : Nat), runF R p n k = (R.drop k).take (runF R p n k).length
  | 0, k => by simp [runF]
  | n + 1, k => by
    rw [runF]
    split
    · rename_i h
      have hl : lkR R k ≠ -1 := fun e => by rw [e, hp] at h; cases h
      have hk := lk_lt hl
      have ih := run_drop (R := R) hp n (k + 1)
      rw [List.drop_eq_getElem_cons hk, List.length_cons, List.take_succ_cons, ← ih, lk_at hk]
    · simp
theorem run_at {R : List Int} {p : Int → Bool} (hp : p (-1) = false) (n k i : Nat) (hi : i < (runF R p n k).length) : lkR R (k + i) ∈ runF R p n k := by
  have hne := (run_end (R := R) hp n k).2 i hi
  have hk := lk_lt hne
  have e := run_drop (R := R) hp n k
  rw [e, lk_at hk]
  refine List.mem_of_getElem? (i := i) ?_
  rw [List.getElem?_take, if_pos hi, List.getElem?_drop, List.getElem?_eq_getElem hk]
theorem cut_run {X : Px} (h : X.Good) {p : Int → Bool} (hp : p (-1) = false) (ha : ∀ c, p c = true → c < 128) (n k : Nat) (hk : k ≤ X.R.length) : X.cut k (k + (runF X.R p n k).length) = bytesI (runF X.R p n k) := by
  have hl := run_le (R := X.R) hp n k hk
  obtain ⟨e1, e2⟩ := cut_list h k (runF X.R p n k).length hl (fun i hi => ha _ (run_all n k _ (run_at hp n k i hi)))
  unfold Px.cut bytesI
  rw [e1]
  apply ByteArray.ext
  apply Array.toList_inj.1
  rw [e2, ← run_drop hp]
theorem byteI {c : Int} (h0 : 0 ≤ c) (h1 : c < 256) : ((UInt8.ofNat c.toNat).toNat : Int) = c := by
  have : (UInt8.ofNat c.toNat).toNat = c.toNat % 256 := by simp
  omega
theorem puint_run : ∀ (l : List Int) (a : Nat), (∀ c ∈ l, isDig c = true) → a * 10 ^ l.length + 10 ^ l.length ≤ 1000000000000000000 →
    parseUint10 a (l.map fun c => UInt8.ofNat c.toNat) = .ok ((l.map fun c => (c - 48).toNat).foldl (fun a d => 10 * a + d) a)
  | [], a, _, _ => rfl
  | c :: l, a, h, hb => by
    have hc := h c (by simp)
    simp only [isDig, Bool.and_eq_true, decide_eq_true_eq] at hc
    have e := byteI (c := c) (by omega) (by omega)
    rw [List.length_cons, Nat.pow_succ] at hb
    have hp : 0 < 10 ^ l.length := Nat.pow_pos (by decide)
    generalize hP : 10 ^ l.length = P at *
    have hd : (c - 48).toNat + 1 ≤ 10 := by omega
    have h2 : ((c - 48).toNat + 1) * P ≤ 10 * P := Nat.mul_le_mul_right P hd
    have h3 : a * (P * 10) = 10 * a * P := by rw [Nat.mul_comm P 10, ← Nat.mul_assoc, Nat.mul_comm a 10]
    have h4 : (10 * a + (c - 48).toNat) * P + P = 10 * a * P + ((c - 48).toNat + 1) * P := by rw [Nat.add_mul, Nat.add_mul]; omega
    have ih := puint_run l (10 * a + (c - 48).toNat) (fun x hx => h x (by simp [hx])) (by rw [hP]; omega)
    have h5 : 10 * a + (c - 48).toNat ≤ 1000000000000000000 := by
      have : 10 * a + (c - 48).toNat ≤ (10 * a + (c - 48).toNat) * P := Nat.le_mul_of_pos_right _ hp
      omega
    rw [List.map_cons, List.map_cons, List.foldl_cons, ← ih, parseUint10]
    have e2 : (UInt8.ofNat c.toNat).toNat = c.toNat := by omega
    rw [e2, if_pos (by omega), if_neg (by omega), if_neg (by omega)]
    rw [show a * 10 + (c.toNat - 48) = 10 * a + (c - 48).toNat by omega]
theorem atoi_run {l : List Int} (h : ∀ c ∈ l, isDig c = true) (hl : l.length ≤ 4) (h0 : l ≠ []) : atoiAll (bytesI l).data.toList = .ok ((val10 (l.map fun c => (c - 48).toNat) : Nat) : Int) ∧ val10 (l.map fun c => (c - 48).toNat) < 10000 := by
  have hv : ∀ (l : List Int) (a : Nat), (∀ c ∈ l, isDig c = true) → (l.map fun c => (c - 48).toNat).foldl (fun a d => 10 * a + d) a < (a + 1) * 10 ^ l.length := by
    intro l
    induction l with
    | nil => intro a _; simp
    | cons c l ih =>
      intro a h
      have hc := h c (by simp)
      simp only [isDig, Bool.and_eq_true, decide_eq_true_eq] at hc
      rw [List.map_cons, List.foldl_cons]
      have := ih (10 * a + (c - 48).toNat) (fun x hx => h x (by simp [hx]))
      rw [List.length_cons, Nat.pow_succ]
      have h2 : (10 * a + (c - 48).toNat + 1) * 10 ^ l.length ≤ ((a + 1) * 10) * 10 ^ l.length := Nat.mul_le_mul_right _ (by omega)
      rw [Nat.mul_assoc, Nat.mul_comm 10 (10 ^ l.length)] at h2
      omega
  have hb := hv l 0 h
  have hp : 10 ^ l.length ≤ 10 ^ 4 := Nat.pow_le_pow_right (by decide) hl
  have hb2 : val10 (l.map fun c => (c - 48).toNat) < 10000 := by unfold val10; omega
  refine ⟨?_, hb2⟩
  have hpu := puint_run l 0 h (by omega)
  match l, h0, h, hpu, hb2 with
  | c :: l, _, h, hpu, hb2 =>
    have hc := h c (by simp)
    simp only [isDig, Bool.and_eq_true, decide_eq_true_eq] at hc
    have e := byteI (c := c) (by omega) (by omega)
    unfold atoiAll
    have el : (bytesI (c :: l)).data.toList = UInt8.ofNat c.toNat :: l.map fun c => UInt8.ofNat c.toNat := by simp [bytesI]
    rw [el]
    dsimp only
    rw [if_neg (by omega)]
    unfold parseMag
    rw [if_neg (by simp)]
    rw [List.map_cons] at hpu
    rw [hpu]
    dsimp only
    rw [if_neg (by unfold val10 at hb2; omega), if_neg (by omega), if_neg (by omega)]
    rfl
end Go.Proofs.YtdhhcefmmojcmaaGreatDoor

/- A parser of patterns: a quantifier's number; conditions: as told. -/
namespace Go.Proofs.YtdhhcefmmojcmaaGreatDoor
open Go.RowKit
open Go.Lib

theorem run_word (b : Nat) (X : Px) (k : Nat) (f : Fl) (vn : Value) (ns : List ByteArray) (op : Nat) (a : Option Addr) (c m : Nat) (mi : Int) (hmi : mi = (m : Int)) (s : List R2) (p : Int → Bool) (w : World) (h : PS w b X k f vn ns op) (hX : X.Good) (hk : k ≤ X.R.length) (hm : m ≤ 1024)
    (ho : w.ownsRow 0 60 2 (.slice a s.length c) s.length (flatR s)) (hs : Canon s) (hp : ∀ x, hasB x s = p x) (hend : p (-1) = false) (ha : ∀ c, p c = true → c < 128) (l : List Int) (hl : runF X.R p m k = l) :
    Calls Tryz.prog 137 #[.pointer (some ⟨b, 0, none⟩), .func (.func 17) #[.slice a s.length c] #[], .int .i64 mi] w fun e w' =>
      e = .returned (.string (bytesI l)) ∧ PS w' b X (k + l.length) f vn ns op ∧ Touch (fun g => g = b) w w' := by
  subst hmi
  have h1 := run_any b X k f vn ns op a c m s p w h hX hk hm ho hs hp hend
  rw [cut_run hX hend ha m k hk, hl] at h1
  exact h1
theorem lt_dig (c : Int) (h : isDig c = true) : c < 128 := by
  simp only [isDig, Bool.and_eq_true, decide_eq_true_eq] at h
  omega
set_option maxRecDepth 100000 in
set_option maxHeartbeats 8000000 in
theorem number_no (b : Nat) (X : Px) (k : Nat) (f : Fl) (vn : Value) (ns : List ByteArray) (op : Nat) (w : World) (h : PS w b X k f vn ns op) (hX : X.Good) (hk : k ≤ X.R.length) (h0 : runF X.R isDig 4 k = []) :
    Calls Tryz.prog 136 #[.pointer (some ⟨b, 0, none⟩)] w fun e w' => ∃ n : Int, e = .returned (.tuple #[.int .i64 n, .bool false]) ∧ PS w' b X k f vn ns op ∧ Touch (fun g => g = b) w w' := by
  have hmf : ∀ (fn : Fn) (first cap : Array Value) (w : World), (Instr.makeFunc fn first cap).run Tryz.prog w = .ok (.func fn first cap) w := fun _ _ _ _ => rfl
  have K2 := hid (fun a c w1 (hp : PS w1 b X k f vn ns op) ho => run_word b X k f vn ns op a c 4 4 rfl (cnR [(48, 57)]) isDig w1 hp hX hk (by omega) ho (cn_good _).1 has_dig rfl lt_dig [] h0)
  have HP := hid h
  have hz : (bytesI []).size ≤ 140737488355328 := by show (0 : Nat) ≤ _; omega
  have hz2 : (bytesI []).data.toList = [] := rfl
  have KA := hid (fun w1 (hw : Sx w1) => atoi_any (bytesI []) hz w1 hw)
  rw [hz2] at KA
  have Mk0 : True := trivial
  clear h h0
  go_enter Tryz.func136, Tryz.ntmps136
  go_wp2_with fail
  go_region_with (first
    | (clear Mk0; go_at_call 149; refine (digits_any _).mono ?_; rintro e w1 ⟨v, rfl, o1⟩; obtain ⟨a1, c1, hv, _⟩ := o1.slice; subst hv; have K3 := hid (K2.out a1 c1 w1 (HP.out.new ((Touch.refl _ w).drew.trans o1.touch (fun _ _ e => e))) o1.own); have T1 := hid ((Touch.refl (fun _ => False) w).drew.trans o1.touch (fun _ _ e => e)); clear o1 K2; have Mk1 : True := trivial)
    | (clear Mk1; go_at_call 137; refine K3.out.mono ?_; rintro e w2 ⟨rfl, hp2, t2⟩; have K4 := hid (KA.out w2 hp2.env); have P2 := hid hp2; have T2 := hid ((T1.out.mono (S' := fun g => g = b) (fun _ _ e => e.elim)).trans t2 (fun _ _ e => e)); clear hp2 t2 K3; have Mk2 : True := trivial)
    | (clear Mk2; go_at_call 148; refine K4.out.mono ?_; rintro e w3 ⟨v, rfl, ⟨n, ad, hv⟩, t3⟩; subst hv; have P3 := hid (P2.out.new t3); have T3 := hid (T2.out.trans t3 (fun _ _ e => e.elim)); clear t3 K4))
  go_wp2_with fail
  go_quiet (fail)
  go_wp2
  refine bodyPost_ret (results_tmp2 rfl _ _ _) rfl ?_
  exact ⟨_, rfl, by rw [List.length_nil, Nat.add_zero] at P3; exact P3.out.new ((Touch.refl _ _).drewN _), T3.out.drewN _⟩
set_option maxRecDepth 100000 in
set_option maxHeartbeats 8000000 in
theorem number_yes (b : Nat) (X : Px) (k : Nat) (f : Fl) (vn : Value) (ns : List ByteArray) (op : Nat) (w : World) (h : PS w b X k f vn ns op) (hX : X.Good) (hk : k ≤ X.R.length) (l : List Int) (h0 : runF X.R isDig 4 k = l) (hne : l ≠ []) :
    Calls Tryz.prog 136 #[.pointer (some ⟨b, 0, none⟩)] w fun e w' => e = .returned (.tuple #[.int .i64 ((val10 (digs X.R 4 k) : Nat) : Int), .bool true]) ∧ PS w' b X (k + l.length) f vn ns op ∧ Touch (fun g => g = b) w w' := by
  have hmf : ∀ (fn : Fn) (first cap : Array Value) (w : World), (Instr.makeFunc fn first cap).run Tryz.prog w = .ok (.func fn first cap) w := fun _ _ _ _ => rfl
  have hdg : digs X.R 4 k = l.map fun c => (c - 48).toNat := by rw [digs_run, h0]
  have hll : l.length ≤ 4 := by rw [← h0]; exact run_len _ _
  have hat := atoi_run (l := l) (fun c hc => by rw [← h0] at hc; exact run_all _ _ c hc) hll hne
  rw [← hdg] at hat
  obtain ⟨N, hN⟩ : ∃ N, N = val10 (digs X.R 4 k) := ⟨_, rfl⟩
  rw [← hN] at hat ⊢
  have K2 := hid (fun a c w1 (hp : PS w1 b X k f vn ns op) ho => run_word b X k f vn ns op a c 4 4 rfl (cnR [(48, 57)]) isDig w1 hp hX hk (by omega) ho (cn_good _).1 has_dig rfl lt_dig l h0)
  have HP := hid h
  have hz : (bytesI l).size ≤ 140737488355328 := by
    have : (bytesI l).size = l.length := by unfold bytesI; rw [← size_list]; simp
    omega
  have KA := hid (fun w1 (hw : Sx w1) => (atoi_any (bytesI l) hz w1 hw).mono (fun e w' hh => (show e = .returned (.tuple #[.int .i64 (N : Int), .nilIface]) ∧ Touch (fun _ => False) w1 w' from by
    obtain ⟨v, g1, g2, g3⟩ := hh
    unfold atV at g2
    rw [hat.1] at g2
    exact ⟨by rw [g1, g2], g3⟩)))
  have Mk0 : True := trivial
  clear h h0 hdg hll hat hN hz
  generalize l.length = L at *
  go_enter Tryz.func136, Tryz.ntmps136
  go_wp2_with fail
  go_region_with (first
    | (clear Mk0; go_at_call 149; refine (digits_any _).mono ?_; rintro e w1 ⟨v, rfl, o1⟩; obtain ⟨a1, c1, hv, _⟩ := o1.slice; subst hv; have K3 := hid (K2.out a1 c1 w1 (HP.out.new ((Touch.refl _ w).drew.trans o1.touch (fun _ _ e => e))) o1.own); have T1 := hid ((Touch.refl (fun _ => False) w).drew.trans o1.touch (fun _ _ e => e)); clear o1 K2; have Mk1 : True := trivial)
    | (clear Mk1; go_at_call 137; refine K3.out.mono ?_; rintro e w2 ⟨rfl, hp2, t2⟩; have K4 := hid (KA.out w2 hp2.env); have P2 := hid hp2; have T2 := hid ((T1.out.mono (S' := fun g => g = b) (fun _ _ e => e.elim)).trans t2 (fun _ _ e => e)); clear hp2 t2 K3; have Mk2 : True := trivial)
    | (clear Mk2; go_at_call 148; refine K4.out.mono ?_; rintro e w3 ⟨rfl, t3⟩; have P3 := hid (P2.out.new t3); have T3 := hid (T2.out.trans t3 (fun _ _ e => e.elim)); clear t3 K4))
  go_wp2_with fail
  go_quiet (fail)
  go_wp2
  refine bodyPost_ret (results_tmp2 rfl _ _ _) rfl ?_
  exact ⟨rfl, P3.out.new ((Touch.refl _ _).drewN _), T3.out.drewN _⟩
end Go.Proofs.YtdhhcefmmojcmaaGreatDoor

/- A parser of patterns: quantifiers; conditions: as told. -/
namespace Go.Proofs.YtdhhcefmmojcmaaGreatDoor
open Go.RowKit
open Go.Lib

theorem took1_y {b : Nat} {X : Px} {k : Nat} {f : Fl} {vn : Value} {ns : List ByteArray} {op : Nat} (c : UInt8) {w : World} (h : PS w b X k f vn ns op) (hk : k ≤ 2000) (hc : lkR X.R k = (c.toNat : Int)) :
    Calls Tryz.prog 69 #[.pointer (some ⟨b, 0, none⟩), .string ⟨#[c]⟩] w fun e w' => e = .returned (.bool true) ∧ PS w' b X (k + 1) f vn ns op ∧ Touch (fun g => g = b) w w' := by
  have h1 := took_any b X k f vn ns op ⟨#[c]⟩ w h hk (by show (1 : Nat) ≤ 8; omega)
  have e : tkB X.R k (⟨#[c]⟩ : ByteArray).data.toList = true := by show (decide (lkR X.R k = (c.toNat : Int)) && true) = true; rw [hc]; simp
  rw [e, if_pos rfl] at h1
  exact h1
theorem took1_n {b : Nat} {X : Px} {k : Nat} {f : Fl} {vn : Value} {ns : List ByteArray} {op : Nat} (c : UInt8) {w : World} (h : PS w b X k f vn ns op) (hk : k ≤ 2000) (hc : lkR X.R k ≠ (c.toNat : Int)) :
    Calls Tryz.prog 69 #[.pointer (some ⟨b, 0, none⟩), .string ⟨#[c]⟩] w fun e w' => e = .returned (.bool false) ∧ PS w' b X k f vn ns op ∧ Touch (fun g => g = b) w w' := by
  have h1 := took_any b X k f vn ns op ⟨#[c]⟩ w h hk (by show (1 : Nat) ≤ 8; omega)
  have e : tkB X.R k (⟨#[c]⟩ : ByteArray).data.toList = false := by show (decide (lkR X.R k = (c.toNat : Int)) && true) = false; rw [decide_eq_false hc]; rfl
  rw [e, if_neg (by decide)] at h1
  exact h1
theorem took2_y {b : Nat} {X : Px} {k : Nat} {f : Fl} {vn : Value} {ns : List ByteArray} {op : Nat} (c d : UInt8) {w : World} (h : PS w b X k f vn ns op) (hk : k ≤ 2000) (hc : lkR X.R k = (c.toNat : Int)) (hd : lkR X.R (k + 1) = (d.toNat : Int)) :
    Calls Tryz.prog 69 #[.pointer (some ⟨b, 0, none⟩), .string ⟨#[c, d]⟩] w fun e w' => e = .returned (.bool true) ∧ PS w' b X (k + 2) f vn ns op ∧ Touch (fun g => g = b) w w' := by
  have h1 := took_any b X k f vn ns op ⟨#[c, d]⟩ w h hk (by show (2 : Nat) ≤ 8; omega)
  have e : tkB X.R k (⟨#[c, d]⟩ : ByteArray).data.toList = true := by show (decide (lkR X.R k = (c.toNat : Int)) && (decide (lkR X.R (k + 1) = (d.toNat : Int)) && true)) = true; rw [hc, hd]; simp
  rw [e, if_pos rfl] at h1
  exact h1
theorem took2_n {b : Nat} {X : Px} {k : Nat} {f : Fl} {vn : Value} {ns : List ByteArray} {op : Nat} (c d : UInt8) {w : World} (h : PS w b X k f vn ns op) (hk : k ≤ 2000) (hc : ¬ (lkR X.R k = (c.toNat : Int) ∧ lkR X.R (k + 1) = (d.toNat : Int))) :
    Calls Tryz.prog 69 #[.pointer (some ⟨b, 0, none⟩), .string ⟨#[c, d]⟩] w fun e w' => e = .returned (.bool false) ∧ PS w' b X k f vn ns op ∧ Touch (fun g => g = b) w w' := by
  have h1 := took_any b X k f vn ns op ⟨#[c, d]⟩ w h hk (by show (2 : Nat) ≤ 8; omega)
  have e : tkB X.R k (⟨#[c, d]⟩ : ByteArray).data.toList = false := by
    show (decide (lkR X.R k = (c.toNat : Int)) && (decide (lkR X.R (k + 1) = (d.toNat : Int)) && true)) = false
    by_cases h1 : lkR X.R k = (c.toNat : Int)
    · rw [decide_eq_false (fun h2 => hc ⟨h1, h2⟩)]; simp
    · rw [decide_eq_false h1]; rfl
  rw [e, if_neg (by decide)] at h1
  exact h1
/-- What bounds and numbers answer. -/
def BndP (b : Nat) (X : Px) (f : Fl) (vn : Value) (ns : List ByteArray) (op : Nat) (w : World) : Option (Int × Int × Nat) → Ending → World → Prop
  | some (x, y, k1), e, w' => e = .returned (.tuple #[.int .i64 x, .int .i64 y, .bool true]) ∧ PS w' b X k1 f vn ns op ∧ Touch (fun g => g = b) w w'
  | none, e, w' => ∃ (x y : Int) (k1 : Nat), e = .returned (.tuple #[.int .i64 x, .int .i64 y, .bool false]) ∧ PS w' b X k1 f vn ns op ∧ Touch (fun g => g = b) w w'
set_option maxRecDepth 100000 in
set_option maxHeartbeats 8000000 in
theorem numbers_any (b : Nat) (X : Px) (k : Nat) (f : Fl) (vn : Value) (ns : List ByteArray) (op : Nat) (w : World) (h : PS w b X k f vn ns op) (hX : X.Good) (hk : k ≤ X.R.length) :
    Calls Tryz.prog 126 #[.pointer (some ⟨b, 0, none⟩)] w fun e w' => BndP b X f vn ns op w (numsF X.R k) e w' := by
  have HX := hid hX
  have HRl := hid hX.lenR
  obtain ⟨A, hA⟩ : ∃ A, A = numsF X.R k := ⟨_, rfl⟩
  have HA := hid hA.symm
  rw [← hA]
  clear hA
  unfold numsF at HA
  simp only at HA
  have HK := hid h
  have TK := hid (Touch.refl (fun g => g = b) w)
  obtain ⟨l, hl⟩ : ∃ l, runF X.R isDig 4 k = l := ⟨_, rfl⟩
  have hdl : (digs X.R 4 k).length = l.length := by rw [digs_run, hl, List.length_map]
  have hdn : digs X.R 4 k = [] ↔ l = [] := by rw [digs_run, hl, List.map_eq_nil_iff]
  have hle := digs_le X.R 4 k hk
  clear h
  by_cases h0 : l = []
  · subst h0
    rw [if_pos (hdn.2 rfl)] at HA
    have K1 := hid (number_no b X k f vn ns op w HK.out hX hk hl)
    clear hdl hdn hle hl hk hX
    go_enter Tryz.func126, Tryz.ntmps126
    go_wp2_with fail
    refine K1.out.mono ?_
    rintro e w1 ⟨n, rfl, hp, tt⟩
    replace HK := hid hp
    replace TK := hid (TK.out.trans tt (fun _ _ e => e))
    clear hp tt K1
    go_wp2
    refine bodyPost_ret (results_tmp3 rfl _ _ _) rfl ?_
    rw [← HA.out]
    exact ⟨_, _, _, rfl, HK.out, TK.out⟩
  · rw [if_neg (fun e => h0 (hdn.1 e)), hdl] at HA
    rw [hdl] at hle
    have K1 := hid (number_yes b X k f vn ns op w HK.out hX hk l hl h0)
    generalize val10 (digs X.R 4 k) = n1 at *
    obtain ⟨k1, hk1⟩ : ∃ k1, k1 = k + l.length := ⟨_, rfl⟩
    rw [← hk1] at HA K1 hle
    clear hdl hdn hl h0 hk hX hk1
    have hk2 : k1 ≤ 1024 := by have := HRl.out; omega
    have HLE := hid hle
    clear hle
    by_cases h1 : lkR X.R k1 = 125
    · rw [if_pos h1] at HA
      go_enter Tryz.func126, Tryz.ntmps126
      go_wp2_with fail
      refine (K1.out).mono ?_
      rintro e ws1 ⟨rfl, hp, tt⟩
      replace HK := hid hp
      replace TK := hid (TK.out.trans tt (fun _ _ e => e))
      clear hp tt
      clear K1
      go_wp2_with fail
      refine (took1_y 125 HK.out (by omega) h1).mono ?_
      rintro e ws2 ⟨rfl, hp, tt⟩
      replace HK := hid hp
      replace TK := hid (TK.out.trans tt (fun _ _ e => e))
      clear hp tt
      clear h1
      go_wp2
      refine bodyPost_ret (results_tmp3 rfl _ _ _) rfl ?_
      rw [← HA.out]
      exact ⟨rfl, HK.out, TK.out⟩
    rw [if_neg h1] at HA
    by_cases h2 : lkR X.R k1 = 44
    · rw [if_pos h2] at HA
      by_cases h3 : lkR X.R (k1 + 1) = 125
      · rw [if_pos h3] at HA
        go_enter Tryz.func126, Tryz.ntmps126
        go_wp2_with fail
        refine (K1.out).mono ?_
        rintro e ws1 ⟨rfl, hp, tt⟩
        replace HK := hid hp
        replace TK := hid (TK.out.trans tt (fun _ _ e => e))
        clear hp tt
        clear K1
        go_wp2_with fail
        refine (took1_n 125 HK.out (by omega) h1).mono ?_
        rintro e ws2 ⟨rfl, hp, tt⟩
        replace HK := hid hp
        replace TK := hid (TK.out.trans tt (fun _ _ e => e))
        clear hp tt
        go_wp2_with fail
        refine (took2_y 44 125 HK.out (by omega) h2 h3).mono ?_
        rintro e ws3 ⟨rfl, hp, tt⟩
        replace HK := hid hp
        replace TK := hid (TK.out.trans tt (fun _ _ e => e))
        clear hp tt
        clear h1 h2 h3
        go_wp2
        refine bodyPost_ret (results_tmp3 rfl _ _ _) rfl ?_
        rw [← HA.out]
        exact ⟨rfl, HK.out, TK.out⟩
      · rw [if_neg h3] at HA
        have hk3 : k1 + 1 ≤ X.R.length := lk_is h2 (by decide)
        have HN3 := hid (show ¬ (lkR X.R k1 = ((44 : UInt8).toNat : Int) ∧ lkR X.R (k1 + 1) = ((125 : UInt8).toNat : Int)) from fun e => h3 e.2)
        obtain ⟨m, hm⟩ : ∃ m, runF X.R isDig 4 (k1 + 1) = m := ⟨_, rfl⟩
        have hdl : (digs X.R 4 (k1 + 1)).length = m.length := by rw [digs_run, hm, List.length_map]
        have hdn : digs X.R 4 (k1 + 1) = [] ↔ m = [] := by rw [digs_run, hm, List.map_eq_nil_iff]
        have hle := digs_le X.R 4 (k1 + 1) hk3
        by_cases h0 : m = []
        · subst h0
          rw [if_pos (hdn.2 rfl)] at HA
          have K2 := hid (fun w' hp => number_no b X (k1 + 1) f vn ns op w' hp HX.out hk3 hm)
          clear hdl hdn hle hm hk3 h3
          go_enter Tryz.func126, Tryz.ntmps126
          go_wp2_with fail
          refine (K1.out).mono ?_
          rintro e ws1 ⟨rfl, hp, tt⟩
          replace HK := hid hp
          replace TK := hid (TK.out.trans tt (fun _ _ e => e))
          clear hp tt
          clear K1
          go_wp2_with fail
          refine (took1_n 125 HK.out (by omega) h1).mono ?_
          rintro e ws2 ⟨rfl, hp, tt⟩
          replace HK := hid hp
          replace TK := hid (TK.out.trans tt (fun _ _ e => e))
          clear hp tt
          go_wp2_with fail
          refine (took2_n 44 125 HK.out (by omega) HN3.out).mono ?_
          rintro e ws3 ⟨rfl, hp, tt⟩
          replace HK := hid hp
          replace TK := hid (TK.out.trans tt (fun _ _ e => e))
          clear hp tt
          go_wp2_with fail
          refine (took1_y 44 HK.out (by omega) h2).mono ?_
          rintro e ws4 ⟨rfl, hp, tt⟩
          replace HK := hid hp
          replace TK := hid (TK.out.trans tt (fun _ _ e => e))
          clear hp tt
          clear h1 h2 HN3
          go_wp2_with fail
          refine (K2.out _ HK.out).mono ?_
          rintro e w5 ⟨n, rfl, hp, tt⟩
          replace HK := hid hp
          replace TK := hid (TK.out.trans tt (fun _ _ e => e))
          clear hp tt K2
          go_wp2
          refine bodyPost_ret (results_tmp3 rfl _ _ _) rfl ?_
          rw [← HA.out]
          exact ⟨_, _, _, rfl, HK.out, TK.out⟩
        · rw [if_neg (fun e => h0 (hdn.1 e)), hdl] at HA
          rw [hdl] at hle
          have K2 := hid (fun w' hp => number_yes b X (k1 + 1) f vn ns op w' hp HX.out hk3 m hm h0)
          generalize val10 (digs X.R 4 (k1 + 1)) = n2 at *
          obtain ⟨k2, hk2'⟩ : ∃ k2, k2 = k1 + 1 + m.length := ⟨_, rfl⟩
          rw [← hk2'] at HA K2 hle
          have hk4 : k2 ≤ 1024 := by have := HRl.out; omega
          clear hdl hdn hm h0 hk3 h3 hle hk2'
          by_cases h5 : lkR X.R k2 = 125
          · rw [if_pos h5] at HA
            go_enter Tryz.func126, Tryz.ntmps126
            go_wp2_with fail
            refine (K1.out).mono ?_
            rintro e ws1 ⟨rfl, hp, tt⟩
            replace HK := hid hp
            replace TK := hid (TK.out.trans tt (fun _ _ e => e))
            clear hp tt
            clear K1
            go_wp2_with fail
            refine (took1_n 125 HK.out (by omega) h1).mono ?_
            rintro e ws2 ⟨rfl, hp, tt⟩
            replace HK := hid hp
            replace TK := hid (TK.out.trans tt (fun _ _ e => e))
            clear hp tt
            go_wp2_with fail
            refine (took2_n 44 125 HK.out (by omega) HN3.out).mono ?_
            rintro e ws3 ⟨rfl, hp, tt⟩
            replace HK := hid hp
            replace TK := hid (TK.out.trans tt (fun _ _ e => e))
            clear hp tt
            go_wp2_with fail
            refine (took1_y 44 HK.out (by omega) h2).mono ?_
            rintro e ws4 ⟨rfl, hp, tt⟩
            replace HK := hid hp
            replace TK := hid (TK.out.trans tt (fun _ _ e => e))
            clear hp tt
            clear h1 h2 HN3
            go_wp2_with fail
            refine (K2.out _ HK.out).mono ?_
            rintro e ws5 ⟨rfl, hp, tt⟩
            replace HK := hid hp
            replace TK := hid (TK.out.trans tt (fun _ _ e => e))
            clear hp tt
            clear K2
            go_wp2_with fail
            refine (took1_y 125 HK.out (by omega) h5).mono ?_
            rintro e ws6 ⟨rfl, hp, tt⟩
            replace HK := hid hp
            replace TK := hid (TK.out.trans tt (fun _ _ e => e))
            clear hp tt
            clear h5
            go_wp2
            refine bodyPost_ret (results_tmp3 rfl _ _ _) rfl ?_
            rw [← HA.out]
            exact ⟨rfl, HK.out, TK.out⟩
          · rw [if_neg h5] at HA
            go_enter Tryz.func126, Tryz.ntmps126
            go_wp2_with fail
            refine (K1.out).mono ?_
            rintro e ws1 ⟨rfl, hp, tt⟩
            replace HK := hid hp
            replace TK := hid (TK.out.trans tt (fun _ _ e => e))
            clear hp tt
            clear K1
            go_wp2_with fail
            refine (took1_n 125 HK.out (by omega) h1).mono ?_
            rintro e ws2 ⟨rfl, hp, tt⟩
            replace HK := hid hp
            replace TK := hid (TK.out.trans tt (fun _ _ e => e))
            clear hp tt
            go_wp2_with fail
            refine (took2_n 44 125 HK.out (by omega) HN3.out).mono ?_
            rintro e ws3 ⟨rfl, hp, tt⟩
            replace HK := hid hp
            replace TK := hid (TK.out.trans tt (fun _ _ e => e))
            clear hp tt
            go_wp2_with fail
            refine (took1_y 44 HK.out (by omega) h2).mono ?_
            rintro e ws4 ⟨rfl, hp, tt⟩
            replace HK := hid hp
            replace TK := hid (TK.out.trans tt (fun _ _ e => e))
            clear hp tt
            clear h1 h2 HN3
            go_wp2_with fail
            refine (K2.out _ HK.out).mono ?_
            rintro e ws5 ⟨rfl, hp, tt⟩
            replace HK := hid hp
            replace TK := hid (TK.out.trans tt (fun _ _ e => e))
            clear hp tt
            clear K2
            go_wp2_with fail
            refine (took1_n 125 HK.out (by omega) h5).mono ?_
            rintro e ws6 ⟨rfl, hp, tt⟩
            replace HK := hid hp
            replace TK := hid (TK.out.trans tt (fun _ _ e => e))
            clear hp tt
            clear h5
            go_wp2
            refine bodyPost_ret (results_tmp3 rfl _ _ _) rfl ?_
            rw [← HA.out]
            exact ⟨_, _, _, rfl, HK.out, TK.out⟩
    · rw [if_neg h2] at HA
      have HN3 := hid (show ¬ (lkR X.R k1 = ((44 : UInt8).toNat : Int) ∧ lkR X.R (k1 + 1) = ((125 : UInt8).toNat : Int)) from fun e => h2 e.1)
      go_enter Tryz.func126, Tryz.ntmps126
      go_wp2_with fail
      refine (K1.out).mono ?_
      rintro e ws1 ⟨rfl, hp, tt⟩
      replace HK := hid hp
      replace TK := hid (TK.out.trans tt (fun _ _ e => e))
      clear hp tt
      clear K1
      go_wp2_with fail
      refine (took1_n 125 HK.out (by omega) h1).mono ?_
      rintro e ws2 ⟨rfl, hp, tt⟩
      replace HK := hid hp
      replace TK := hid (TK.out.trans tt (fun _ _ e => e))
      clear hp tt
      go_wp2_with fail
      refine (took2_n 44 125 HK.out (by omega) HN3.out).mono ?_
      rintro e ws3 ⟨rfl, hp, tt⟩
      replace HK := hid hp
      replace TK := hid (TK.out.trans tt (fun _ _ e => e))
      clear hp tt
      go_wp2_with fail
      refine (took1_n 44 HK.out (by omega) h2).mono ?_
      rintro e ws4 ⟨rfl, hp, tt⟩
      replace HK := hid hp
      replace TK := hid (TK.out.trans tt (fun _ _ e => e))
      clear hp tt
      clear h1 h2 HN3
      go_wp2
      refine bodyPost_ret (results_tmp3 rfl _ _ _) rfl ?_
      rw [← HA.out]
      exact ⟨_, _, _, rfl, HK.out, TK.out⟩
end Go.Proofs.YtdhhcefmmojcmaaGreatDoor
