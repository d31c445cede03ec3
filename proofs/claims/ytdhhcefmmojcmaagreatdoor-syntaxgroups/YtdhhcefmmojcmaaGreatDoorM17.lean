/- Texts of this proof, one behind the other: what each says stands ahead of it. -/
import Derived.Test.YtdhhcefmmojcmaaGreatDoorM16
import Derived.Test.YtdhhcefmmojcmaaGreatDoorM7
import Derived.Test.YtdhhcefmmojcmaaGreatDoorM14
/- A parser of patterns: ParseInt to the base of sixteen, from without; conditions: as told. -/
namespace Go.Proofs.YtdhhcefmmojcmaaGreatDoor
open Go.RowKit
open Go.Lib

set_option maxRecDepth 100000 in
set_option maxHeartbeats 8000000 in
theorem pint_in (l : List Int) (hl : ∀ c ∈ l, isHex c = true) (h6 : l.length ≤ 6) (h0 : l ≠ []) (w : World) :
    Calls Tryz.prog 157 #[.string (bytesI l), .int .i64 16, .int .i64 32] w fun e w' => e = .returned (.tuple #[.int .i64 ((val16 l : Nat) : Int), .nilIface]) ∧ Touch (fun _ => False) w w' := by
  have hsz : (bytesI l).size = l.length := by unfold bytesI; rw [← size_list]; simp
  have hpos : 0 < l.length := List.length_pos_iff.2 h0
  have hs1 : (bytesI l).toList.isEmpty = false := by
    rw [Lib.toList_data]
    cases l with
    | nil => exact absurd rfl h0
    | cons c l => rfl
  have hs2 : ((bytesI l).toList == ([] : List UInt8)) = false := by
    rw [Lib.toList_data]
    cases l with
    | nil => exact absurd rfl h0
    | cons c l => rfl
  have hh := hl l[0] (List.getElem_mem hpos)
  simp only [isHex, isDig, Bool.or_eq_true, Bool.and_eq_true, decide_eq_true_eq] at hh
  obtain ⟨x, hx⟩ : ∃ x : Nat, x = l[0].toNat := ⟨_, rfl⟩
  have hix : ∀ w, (Instr.index 9 (.string (bytesI l)) (.int .i64 0)).run Tryz.prog w = .ok (.int .u8 ((x : Nat) : Int)) w := fun w => by
    have e : (bytesI l)[0]'(by rw [hsz]; exact hpos) = UInt8.ofNat l[0].toNat := by
      show (bytesI l).data[0]'(by show 0 < (bytesI l).size; rw [hsz]; exact hpos) = _
      simp [bytesI]
    have hne : bytesI l ≠ ByteArray.empty := fun e => by rw [e] at hsz; simp at hsz; omega
    have e2 : (UInt8.ofNat l[0].toNat).toNat = l[0].toNat := by
      have : (UInt8.ofNat l[0].toNat).toNat = l[0].toNat % 256 := by simp
      rw [this, Nat.mod_eq_of_lt (by omega)]
    simp [go_sem, hne, e, e2, hx]
  have b1 : ((x : Int) == 43) = false := beq_eq_false_iff_ne.2 (by omega)
  have b2 : ((x : Int) == 45) = false := beq_eq_false_iff_ne.2 (by omega)
  have hv := val16_lt l hl
  have hv2 : 16 ^ l.length ≤ 16 ^ 6 := Nat.pow_le_pow_right (by decide) h6
  have K := hid (puint_any l hl h6 h0 w)
  obtain ⟨V, hV⟩ : ∃ V, V = val16 l := ⟨_, rfl⟩
  rw [← hV] at K hv ⊢
  have hVb : V ≤ 16777216 := by omega
  obtain ⟨S, hS⟩ : ∃ S, S = bytesI l := ⟨_, rfl⟩
  rw [← hS] at hix hs1 hs2 K ⊢
  clear hS hV hv hv2 hh hx hsz hpos hl h0
  go_enter Tryz.func157, Tryz.ntmps157
  go_wp2_with fail
  refine K.out.mono ?_
  rintro e w1 ⟨rfl, t1⟩
  have T1 := hid t1
  clear t1 K
  go_upto_region 17 with fail
  generalize eD : (2147483648 : Int) = D
  have v1 : (V : Int) < D := by omega
  have v2 : IntKind.i64.wrap (V : Int) = (V : Int) := by rw [IntKind.wrap_i64]; omega
  clear eD
  go_wp2
  refine bodyPost_ret (results_tmp2 rfl _ _ _) rfl ?_
  exact ⟨rfl, T1.out⟩
set_option maxRecDepth 100000 in
set_option maxHeartbeats 8000000 in
theorem pint_ok (l : List Int) (hl : ∀ c ∈ l, isHex c = true) (h6 : l.length ≤ 6) (h0 : l ≠ []) (w : World) :
    Calls Tryz.prog 154 #[.string (bytesI l), .int .i64 16, .int .i64 32] w fun e w' => e = .returned (.tuple #[.int .i64 ((val16 l : Nat) : Int), .nilIface]) ∧ Touch (fun _ => False) w w' := by
  have K := hid (pint_in l hl h6 h0 w)
  generalize bytesI l = S at *
  generalize val16 l = V at *
  clear hl h0
  go_enter Tryz.func154, Tryz.ntmps154
  go_wp2_with fail
  refine K.out.mono ?_
  rintro e w1 ⟨rfl, t1⟩
  have T1 := hid t1
  clear t1 K
  go_wp2
  refine bodyPost_ret (results_tmp2 rfl _ _ _) rfl ?_
  exact ⟨rfl, T1.out⟩
set_option maxRecDepth 100000 in
set_option maxHeartbeats 8000000 in
theorem pint_nil (w : World) : Calls Tryz.prog 157 #[.string ⟨#[]⟩, .int .i64 16, .int .i64 32] w fun e w' => e = .returned (.tuple #[.int .i64 0, .iface 201 (.int .i64 2)]) ∧ w' = w := by
  go_enter Tryz.func157, Tryz.ntmps157
  go_wp2
  refine bodyPost_ret (results_tmp2 rfl _ _ _) rfl ?_
  exact ⟨rfl, rfl⟩
theorem clone_nil (w : World) : Calls Tryz.prog 163 #[.string ⟨#[]⟩] w fun e w' => e = .returned (.string ⟨#[]⟩) ∧ w' = w := by
  go_enter Tryz.func163, Tryz.ntmps163
  go_wp2
  go_ret
  exact ⟨rfl, rfl⟩
set_option maxRecDepth 100000 in
set_option maxHeartbeats 8000000 in
theorem synerr_any (s : ByteArray) (w : World) (hx : Sx w) : Calls Tryz.prog 158 #[.string s, .string ⟨#[]⟩] w fun e w' => ∃ a, e = .returned (.pointer (some a)) ∧ Touch (fun _ => False) w w' := by
  obtain ⟨ev, hv, hev⟩ := hx.syn
  clear hx
  rcases hev with rfl | ⟨te, pe, rfl⟩
  · have hv2 : w.drew.cell? ⟨2, 0, none⟩ = some .nilIface := hv
    go_enter Tryz.func158, Tryz.ntmps158
    go_wp2_with fail
    go_region_with (go_at_call 163; refine (clone_nil _).mono ?_; rintro e w1 ⟨rfl, rfl⟩)
    all_goals (go_wp2_with fail)
    all_goals go_ret
    all_goals exact ⟨_, rfl, ((Touch.refl (fun _ => False) w).drew).alloc _⟩
  · have hv2 : w.drew.cell? ⟨2, 0, none⟩ = some (.iface te pe) := hv
    go_enter Tryz.func158, Tryz.ntmps158
    go_wp2_with fail
    go_region_with (go_at_call 163; refine (clone_nil _).mono ?_; rintro e w1 ⟨rfl, rfl⟩)
    all_goals (go_wp2_with fail)
    all_goals go_ret
    all_goals exact ⟨_, rfl, ((Touch.refl (fun _ => False) w).drew).alloc _⟩
theorem err_in (d : Nat) (a b : Int) (w : World) : (Op.equalIn (d + 2) 192 (.iface 201 (.int .i64 a)) (.iface 201 (.int .i64 b))).run Tryz.prog w = .ok (a == b) w := by
  obtain ⟨i, hi1, hi2⟩ : ∃ i, Tryz.prog.info? 201 = some i ∧ i.comparable = true := by
    have h : (Tryz.prog.info? 201).map (·.comparable) = some true := by kernel_rfl
    exact Option.map_eq_some_iff.1 h
  simp [Op.equalIn, run_underlying Tryz.underlying192, run_underlying Tryz.underlying201, typeInfo, hi1, hi2]
theorem err_eq (a b : Int) (w : World) : (binOp .eql 192 (.iface 201 (.int .i64 a)) (.iface 201 (.int .i64 b))).run Tryz.prog w = .ok (.bool (a == b)) w := by
  simp only [binOp]
  simp [Op.equal, Op.maxDepth, err_in 9998 a b w]
set_option maxRecDepth 100000 in
set_option maxHeartbeats 8000000 in
theorem toerr_any (s : ByteArray) (w : World) (hx : Sx w) : Calls Tryz.prog 156 #[.string s, .string ⟨#[]⟩, .int .i64 16, .int .i64 32, .iface 201 (.int .i64 2)] w fun e w' => ∃ a, e = .returned (.iface 202 (.pointer (some a))) ∧ Touch (fun _ => False) w w' := by
  have K := hid (synerr_any s w hx)
  have he := err_eq 2 2 w
  clear hx
  go_enter Tryz.func156, Tryz.ntmps156
  go_wp2_with fail
  refine K.out.mono ?_
  rintro e w1 ⟨a, rfl, t1⟩
  have T1 := hid t1
  clear t1 K
  go_wp2
  go_ret
  exact ⟨_, rfl, T1.out⟩
set_option maxRecDepth 100000 in
set_option maxHeartbeats 8000000 in
theorem pint_no (w : World) (hx : Sx w) : Calls Tryz.prog 154 #[.string ⟨#[]⟩, .int .i64 16, .int .i64 32] w fun e w' => ∃ a, e = .returned (.tuple #[.int .i64 0, .iface 202 (.pointer (some a))]) ∧ Touch (fun _ => False) w w' := by
  have K := hid (pint_nil w)
  have K2 := hid (fun s => toerr_any s w hx)
  clear hx
  go_enter Tryz.func154, Tryz.ntmps154
  go_wp2_with fail
  refine K.out.mono ?_
  rintro e w1 ⟨rfl, rfl⟩
  go_wp2_with fail
  refine (K2.out _).mono ?_
  rintro e w2 ⟨a, rfl, t1⟩
  have T1 := hid t1
  clear t1 K K2
  go_wp2
  refine bodyPost_ret (results_tmp2 rfl _ _ _) rfl ?_
  exact ⟨_, rfl, T1.out⟩
end Go.Proofs.YtdhhcefmmojcmaaGreatDoor

/- A parser of patterns: a number by its digits; conditions: as told. -/
namespace Go.Proofs.YtdhhcefmmojcmaaGreatDoor
open Go.RowKit
open Go.Lib

/-- What code answers. -/
def CodP (b : Nat) (X : Px) (f : Fl) (vn : Value) (ns : List ByteArray) (op : Nat) (w : World) : PR (Nat × Nat) → Ending → World → Prop
  | .error (c, j), e, w' => e = thrown c (lkR X.P j) ∧ Touch (fun g => g = b) w w'
  | .ok (n, k1), e, w' => e = .returned (.int .i64 (n : Nat)) ∧ PS w' b X k1 f vn ns op ∧ Touch (fun g => g = b) w w'
theorem lt_hex (c : Int) (h : isHex c = true) : c < 128 := by
  simp only [isHex, isDig, Bool.or_eq_true, Bool.and_eq_true, decide_eq_true_eq] at h
  omega
set_option maxRecDepth 100000 in
set_option maxHeartbeats 8000000 in
theorem code_any (b : Nat) (X : Px) (k0 k : Nat) (f : Fl) (vn : Value) (ns : List ByteArray) (op : Nat) (w : World) (h : PS w b X k f vn ns op) (hX : X.Good) (hk : k ≤ X.R.length) (hk0 : k0 ≤ X.R.length) :
    Calls Tryz.prog 143 #[.pointer (some ⟨b, 0, none⟩), .int .i64 (k0 : Nat)] w fun e w' => CodP b X f vn ns op w (codeF X.R k0 k) e w' := by
  have hmf : ∀ (fn : Fn) (first cap : Array Value) (w : World), (Instr.makeFunc fn first cap).run Tryz.prog w = .ok (.func fn first cap) w := fun _ _ _ _ => rfl
  have HRl := hid hX.lenR
  have hk2 : k ≤ 1024 := by have := HRl.out; omega
  obtain ⟨A, hA⟩ : ∃ A, A = codeF X.R k0 k := ⟨_, rfl⟩
  have HA := hid hA.symm
  rw [← hA]
  unfold codeF at HA
  simp only at HA
  clear hA
  have HK := hid h
  have TK := hid (Touch.refl (fun g => g = b) w)
  have KW := hid (fun k1 w' hp => wrong_any b X k1 f vn ns op 20 k0 w' hp (by have := hX.lenP; omega))
  by_cases h123 : lkR X.R k = 123
  · rw [if_pos h123] at HA
    have hk3 : k + 1 ≤ X.R.length := lk_is h123 (by decide)
    obtain ⟨l, hl⟩ : ∃ l, runF X.R isHex 6 (k + 1) = l := ⟨_, rfl⟩
    have K2 := hid (fun a c w1 (hp : PS w1 b X (k + 1) f vn ns op) ho => run_word b X (k + 1) f vn ns op a c 6 6 rfl (cnR lHex) isHex w1 hp hX hk3 (by omega) ho (cn_good _).1 has_hex rfl lt_hex l hl)
    have hle := run_le (R := X.R) (p := isHex) rfl 6 (k + 1) hk3
    have hall := fun c (hc : c ∈ l) => run_all (R := X.R) (p := isHex) 6 (k + 1) c (by rw [hl]; exact hc)
    have h6 : l.length ≤ 6 := by rw [← hl]; exact run_len _ _
    rw [hl] at HA hle
    obtain ⟨k1, hk1⟩ : ∃ k1, k1 = k + 1 + l.length := ⟨_, rfl⟩
    rw [← hk1] at HA hle K2
    have hk4 : k1 ≤ 1024 := by have := HRl.out; omega
    clear h hX hk hk0 hk3 hl hle hk1
    by_cases h0 : l = []
    · subst h0
      rw [if_neg (fun e => e.1 rfl)] at HA
      clear hall h6
      by_cases h125 : lkR X.R k1 = 125
      · go_enter Tryz.func143, Tryz.ntmps143
        go_wp2_with fail
        refine (took1_y 123 HK.out (by omega) h123).mono ?_
        rintro e ws1 ⟨rfl, hp, tt⟩
        replace HK := hid hp
        replace TK := hid (TK.out.trans tt (fun _ _ e => e))
        clear hp tt
        clear h123
        go_wp2_with fail
        have Mk0 : True := trivial
        go_region_with (first
          | (clear Mk0; go_at_call 153; refine (hexdig_any _).mono ?_; rintro e w1 ⟨v, rfl, o1⟩; obtain ⟨a1, c1, hv, _⟩ := o1.slice; subst hv; have T1 := hid ((Touch.refl (fun _ => False) ws1).drew.trans o1.touch (fun _ _ e => e)); have K3 := hid (K2.out a1 c1 w1 (HK.out.new T1.out) o1.own); clear o1 K2; have Mk1 : True := trivial)
          | (clear Mk1; go_at_call 137; refine K3.out.mono ?_; rintro e w2 ⟨rfl, hp2, t2⟩; replace HK := hid hp2; replace TK := hid ((TK.out.trans T1.out (fun _ _ e => e.elim)).trans t2 (fun _ _ e => e)); clear hp2 t2 K3 T1))
        go_wp2_with fail
        refine (took1_y 125 HK.out (by omega) h125).mono ?_
        rintro e ws5 ⟨rfl, hp, tt⟩
        replace HK := hid hp
        replace TK := hid (TK.out.trans tt (fun _ _ e => e))
        clear hp tt
        go_wp2_with fail
        refine (pint_no _ HK.out.env).mono ?_
        rintro e w6 ⟨ad, rfl, t6⟩
        replace HK := hid (HK.out.new t6)
        replace TK := hid (TK.out.trans t6 (fun _ _ e => e.elim))
        clear t6
        go_wp2_with fail
        refine (KW.out _ _ HK.out).mono ?_
        rintro e w9 ⟨rfl, t9⟩
        replace TK := hid (TK.out.trans t9 (fun _ _ e => e.elim))
        clear t9 KW
        go_wp2
        refine ⟨rfl, ?_⟩
        rw [← HA.out]
        exact ⟨rfl, TK.out⟩
      · go_enter Tryz.func143, Tryz.ntmps143
        go_wp2_with fail
        refine (took1_y 123 HK.out (by omega) h123).mono ?_
        rintro e ws1 ⟨rfl, hp, tt⟩
        replace HK := hid hp
        replace TK := hid (TK.out.trans tt (fun _ _ e => e))
        clear hp tt
        clear h123
        go_wp2_with fail
        have Mk0 : True := trivial
        go_region_with (first
          | (clear Mk0; go_at_call 153; refine (hexdig_any _).mono ?_; rintro e w1 ⟨v, rfl, o1⟩; obtain ⟨a1, c1, hv, _⟩ := o1.slice; subst hv; have T1 := hid ((Touch.refl (fun _ => False) ws1).drew.trans o1.touch (fun _ _ e => e)); have K3 := hid (K2.out a1 c1 w1 (HK.out.new T1.out) o1.own); clear o1 K2; have Mk1 : True := trivial)
          | (clear Mk1; go_at_call 137; refine K3.out.mono ?_; rintro e w2 ⟨rfl, hp2, t2⟩; replace HK := hid hp2; replace TK := hid ((TK.out.trans T1.out (fun _ _ e => e.elim)).trans t2 (fun _ _ e => e)); clear hp2 t2 K3 T1))
        go_wp2_with fail
        refine (took1_n 125 HK.out (by omega) h125).mono ?_
        rintro e ws5 ⟨rfl, hp, tt⟩
        replace HK := hid hp
        replace TK := hid (TK.out.trans tt (fun _ _ e => e))
        clear hp tt
        go_wp2_with fail
        refine (pint_no _ HK.out.env).mono ?_
        rintro e w6 ⟨ad, rfl, t6⟩
        replace HK := hid (HK.out.new t6)
        replace TK := hid (TK.out.trans t6 (fun _ _ e => e.elim))
        clear t6
        go_wp2_with fail
        refine (KW.out _ _ HK.out).mono ?_
        rintro e w9 ⟨rfl, t9⟩
        replace TK := hid (TK.out.trans t9 (fun _ _ e => e.elim))
        clear t9 KW
        go_wp2
        refine ⟨rfl, ?_⟩
        rw [← HA.out]
        exact ⟨rfl, TK.out⟩
    · have KP := hid (fun w' => pint_ok l hall h6 h0 w')
      generalize bytesI l = S at *
      obtain ⟨V, hV⟩ : ∃ V, V = val16 l := ⟨_, rfl⟩
      rw [← hV] at KP HA
      have HL0 := hid h0
      clear hall h6 hV h0
      by_cases h125 : lkR X.R k1 = 125
      · by_cases hv : V ≤ 1114111
        · rw [if_pos ⟨HL0.out, h125, hv⟩] at HA
          have hvI : ¬ (V : Int) > 1114111 := by omega
          clear KW
          go_enter Tryz.func143, Tryz.ntmps143
          go_wp2_with fail
          refine (took1_y 123 HK.out (by omega) h123).mono ?_
          rintro e ws1 ⟨rfl, hp, tt⟩
          replace HK := hid hp
          replace TK := hid (TK.out.trans tt (fun _ _ e => e))
          clear hp tt
          clear h123
          go_wp2_with fail
          have Mk0 : True := trivial
          go_region_with (first
            | (clear Mk0; go_at_call 153; refine (hexdig_any _).mono ?_; rintro e w1 ⟨v, rfl, o1⟩; obtain ⟨a1, c1, hv, _⟩ := o1.slice; subst hv; have T1 := hid ((Touch.refl (fun _ => False) ws1).drew.trans o1.touch (fun _ _ e => e)); have K3 := hid (K2.out a1 c1 w1 (HK.out.new T1.out) o1.own); clear o1 K2; have Mk1 : True := trivial)
            | (clear Mk1; go_at_call 137; refine K3.out.mono ?_; rintro e w2 ⟨rfl, hp2, t2⟩; replace HK := hid hp2; replace TK := hid ((TK.out.trans T1.out (fun _ _ e => e.elim)).trans t2 (fun _ _ e => e)); clear hp2 t2 K3 T1))
          go_wp2_with fail
          refine (took1_y 125 HK.out (by omega) h125).mono ?_
          rintro e ws5 ⟨rfl, hp, tt⟩
          replace HK := hid hp
          replace TK := hid (TK.out.trans tt (fun _ _ e => e))
          clear hp tt
          go_wp2_with fail
          refine (KP.out _).mono ?_
          rintro e w6 ⟨rfl, t6⟩
          replace HK := hid (HK.out.new t6)
          replace TK := hid (TK.out.trans t6 (fun _ _ e => e.elim))
          clear t6 KP
          go_wp2
          go_ret
          rw [← HA.out]
          exact ⟨rfl, HK.out, TK.out⟩
        · rw [if_neg (fun e => hv e.2.2)] at HA
          have hvI : (V : Int) > 1114111 := by omega
          go_enter Tryz.func143, Tryz.ntmps143
          go_wp2_with fail
          refine (took1_y 123 HK.out (by omega) h123).mono ?_
          rintro e ws1 ⟨rfl, hp, tt⟩
          replace HK := hid hp
          replace TK := hid (TK.out.trans tt (fun _ _ e => e))
          clear hp tt
          clear h123
          go_wp2_with fail
          have Mk0 : True := trivial
          go_region_with (first
            | (clear Mk0; go_at_call 153; refine (hexdig_any _).mono ?_; rintro e w1 ⟨v, rfl, o1⟩; obtain ⟨a1, c1, hv, _⟩ := o1.slice; subst hv; have T1 := hid ((Touch.refl (fun _ => False) ws1).drew.trans o1.touch (fun _ _ e => e)); have K3 := hid (K2.out a1 c1 w1 (HK.out.new T1.out) o1.own); clear o1 K2; have Mk1 : True := trivial)
            | (clear Mk1; go_at_call 137; refine K3.out.mono ?_; rintro e w2 ⟨rfl, hp2, t2⟩; replace HK := hid hp2; replace TK := hid ((TK.out.trans T1.out (fun _ _ e => e.elim)).trans t2 (fun _ _ e => e)); clear hp2 t2 K3 T1))
          go_wp2_with fail
          refine (took1_y 125 HK.out (by omega) h125).mono ?_
          rintro e ws5 ⟨rfl, hp, tt⟩
          replace HK := hid hp
          replace TK := hid (TK.out.trans tt (fun _ _ e => e))
          clear hp tt
          go_wp2_with fail
          refine (KP.out _).mono ?_
          rintro e w6 ⟨rfl, t6⟩
          replace HK := hid (HK.out.new t6)
          replace TK := hid (TK.out.trans t6 (fun _ _ e => e.elim))
          clear t6 KP
          go_wp2_with fail
          refine (KW.out _ _ HK.out).mono ?_
          rintro e w9 ⟨rfl, t9⟩
          replace TK := hid (TK.out.trans t9 (fun _ _ e => e.elim))
          clear t9 KW
          go_wp2
          refine ⟨rfl, ?_⟩
          rw [← HA.out]
          exact ⟨rfl, TK.out⟩
      · rw [if_neg (fun e => h125 e.2.1)] at HA
        go_enter Tryz.func143, Tryz.ntmps143
        go_wp2_with fail
        refine (took1_y 123 HK.out (by omega) h123).mono ?_
        rintro e ws1 ⟨rfl, hp, tt⟩
        replace HK := hid hp
        replace TK := hid (TK.out.trans tt (fun _ _ e => e))
        clear hp tt
        clear h123
        go_wp2_with fail
        have Mk0 : True := trivial
        go_region_with (first
          | (clear Mk0; go_at_call 153; refine (hexdig_any _).mono ?_; rintro e w1 ⟨v, rfl, o1⟩; obtain ⟨a1, c1, hv, _⟩ := o1.slice; subst hv; have T1 := hid ((Touch.refl (fun _ => False) ws1).drew.trans o1.touch (fun _ _ e => e)); have K3 := hid (K2.out a1 c1 w1 (HK.out.new T1.out) o1.own); clear o1 K2; have Mk1 : True := trivial)
          | (clear Mk1; go_at_call 137; refine K3.out.mono ?_; rintro e w2 ⟨rfl, hp2, t2⟩; replace HK := hid hp2; replace TK := hid ((TK.out.trans T1.out (fun _ _ e => e.elim)).trans t2 (fun _ _ e => e)); clear hp2 t2 K3 T1))
        go_wp2_with fail
        refine (took1_n 125 HK.out (by omega) h125).mono ?_
        rintro e ws5 ⟨rfl, hp, tt⟩
        replace HK := hid hp
        replace TK := hid (TK.out.trans tt (fun _ _ e => e))
        clear hp tt
        go_wp2_with fail
        refine (KP.out _).mono ?_
        rintro e w6 ⟨rfl, t6⟩
        replace HK := hid (HK.out.new t6)
        replace TK := hid (TK.out.trans t6 (fun _ _ e => e.elim))
        clear t6 KP
        go_wp2_with fail
        refine (KW.out _ _ HK.out).mono ?_
        rintro e w9 ⟨rfl, t9⟩
        replace TK := hid (TK.out.trans t9 (fun _ _ e => e.elim))
        clear t9 KW
        go_wp2
        refine ⟨rfl, ?_⟩
        rw [← HA.out]
        exact ⟨rfl, TK.out⟩
  · rw [if_neg h123] at HA
    obtain ⟨l, hl⟩ : ∃ l, runF X.R isHex 2 k = l := ⟨_, rfl⟩
    have K2 := hid (fun a c w1 (hp : PS w1 b X k f vn ns op) ho => run_word b X k f vn ns op a c 2 2 rfl (cnR lHex) isHex w1 hp hX hk (by omega) ho (cn_good _).1 has_hex rfl lt_hex l hl)
    have hall := fun c (hc : c ∈ l) => run_all (R := X.R) (p := isHex) 2 k c (by rw [hl]; exact hc)
    have h6 : l.length ≤ 2 := by rw [← hl]; exact run_len _ _
    have hsz : (bytesI l).size = l.length := by unfold bytesI; rw [← size_list]; simp
    rw [hl] at HA
    clear h hX hk hk0 hl
    by_cases h0 : l = []
    · subst h0
      rw [if_neg (by decide)] at HA
      have z2 : (((bytesI []).size : Int) == 2) = false := by rw [hsz]; rfl
      clear hall h6 hsz
      go_enter Tryz.func143, Tryz.ntmps143
      go_wp2_with fail
      refine (took1_n 123 HK.out (by omega) h123).mono ?_
      rintro e ws1 ⟨rfl, hp, tt⟩
      replace HK := hid hp
      replace TK := hid (TK.out.trans tt (fun _ _ e => e))
      clear hp tt
      clear h123
      go_wp2_with fail
      have Mk0 : True := trivial
      go_region_with (first
        | (clear Mk0; go_at_call 153; refine (hexdig_any _).mono ?_; rintro e w1 ⟨v, rfl, o1⟩; obtain ⟨a1, c1, hv, _⟩ := o1.slice; subst hv; have T1 := hid ((Touch.refl (fun _ => False) ws1).drew.trans o1.touch (fun _ _ e => e)); have K3 := hid (K2.out a1 c1 w1 (HK.out.new T1.out) o1.own); clear o1 K2; have Mk1 : True := trivial)
        | (clear Mk1; go_at_call 137; refine K3.out.mono ?_; rintro e w2 ⟨rfl, hp2, t2⟩; replace HK := hid hp2; replace TK := hid ((TK.out.trans T1.out (fun _ _ e => e.elim)).trans t2 (fun _ _ e => e)); clear hp2 t2 K3 T1))
      change (((⟨#[]⟩ : ByteArray).size : Int) == 2) = false at z2
      go_wp2_with fail
      refine (pint_no _ HK.out.env).mono ?_
      rintro e w6 ⟨ad, rfl, t6⟩
      replace HK := hid (HK.out.new t6)
      replace TK := hid (TK.out.trans t6 (fun _ _ e => e.elim))
      clear t6
      go_wp2_with fail
      refine (KW.out _ _ HK.out).mono ?_
      rintro e w9 ⟨rfl, t9⟩
      replace TK := hid (TK.out.trans t9 (fun _ _ e => e.elim))
      clear t9 KW
      go_wp2
      refine ⟨rfl, ?_⟩
      rw [← HA.out]
      exact ⟨rfl, TK.out⟩
    · have KP := hid (fun w' => pint_ok l hall (by omega) h0 w')
      have hv16 := val16_lt l hall
      have hv17 : 16 ^ l.length ≤ 16 ^ 2 := Nat.pow_le_pow_right (by decide) h6
      obtain ⟨V, hV⟩ : ∃ V, V = val16 l := ⟨_, rfl⟩
      rw [← hV] at KP HA hv16
      have hvI : ¬ (V : Int) > 1114111 := by omega
      by_cases h2 : l.length = 2
      · rw [if_pos h2] at HA
        have z2 : (((bytesI l).size : Int) == 2) = true := by rw [hsz, h2]; rfl
        rw [h2] at K2
        generalize bytesI l = S at *
        clear hall h6 hV h0 hv16 hv17 hsz h2 KW
        go_enter Tryz.func143, Tryz.ntmps143
        go_wp2_with fail
        refine (took1_n 123 HK.out (by omega) h123).mono ?_
        rintro e ws1 ⟨rfl, hp, tt⟩
        replace HK := hid hp
        replace TK := hid (TK.out.trans tt (fun _ _ e => e))
        clear hp tt
        clear h123
        go_wp2_with fail
        have Mk0 : True := trivial
        go_region_with (first
          | (clear Mk0; go_at_call 153; refine (hexdig_any _).mono ?_; rintro e w1 ⟨v, rfl, o1⟩; obtain ⟨a1, c1, hv, _⟩ := o1.slice; subst hv; have T1 := hid ((Touch.refl (fun _ => False) ws1).drew.trans o1.touch (fun _ _ e => e)); have K3 := hid (K2.out a1 c1 w1 (HK.out.new T1.out) o1.own); clear o1 K2; have Mk1 : True := trivial)
          | (clear Mk1; go_at_call 137; refine K3.out.mono ?_; rintro e w2 ⟨rfl, hp2, t2⟩; replace HK := hid hp2; replace TK := hid ((TK.out.trans T1.out (fun _ _ e => e.elim)).trans t2 (fun _ _ e => e)); clear hp2 t2 K3 T1))
        go_wp2_with fail
        refine (KP.out _).mono ?_
        rintro e w6 ⟨rfl, t6⟩
        replace HK := hid (HK.out.new t6)
        replace TK := hid (TK.out.trans t6 (fun _ _ e => e.elim))
        clear t6 KP
        go_wp2
        go_ret
        rw [← HA.out]
        exact ⟨rfl, HK.out, TK.out⟩
      · rw [if_neg h2] at HA
        have z2 : (((bytesI l).size : Int) == 2) = false := by rw [hsz]; exact beq_eq_false_iff_ne.2 (by omega)
        generalize l.length = L at *
        generalize bytesI l = S at *
        clear hall h6 hV h0 hv16 hv17 hsz h2
        go_enter Tryz.func143, Tryz.ntmps143
        go_wp2_with fail
        refine (took1_n 123 HK.out (by omega) h123).mono ?_
        rintro e ws1 ⟨rfl, hp, tt⟩
        replace HK := hid hp
        replace TK := hid (TK.out.trans tt (fun _ _ e => e))
        clear hp tt
        clear h123
        go_wp2_with fail
        have Mk0 : True := trivial
        go_region_with (first
          | (clear Mk0; go_at_call 153; refine (hexdig_any _).mono ?_; rintro e w1 ⟨v, rfl, o1⟩; obtain ⟨a1, c1, hv, _⟩ := o1.slice; subst hv; have T1 := hid ((Touch.refl (fun _ => False) ws1).drew.trans o1.touch (fun _ _ e => e)); have K3 := hid (K2.out a1 c1 w1 (HK.out.new T1.out) o1.own); clear o1 K2; have Mk1 : True := trivial)
          | (clear Mk1; go_at_call 137; refine K3.out.mono ?_; rintro e w2 ⟨rfl, hp2, t2⟩; replace HK := hid hp2; replace TK := hid ((TK.out.trans T1.out (fun _ _ e => e.elim)).trans t2 (fun _ _ e => e)); clear hp2 t2 K3 T1))
        go_wp2_with fail
        refine (KP.out _).mono ?_
        rintro e w6 ⟨rfl, t6⟩
        replace HK := hid (HK.out.new t6)
        replace TK := hid (TK.out.trans t6 (fun _ _ e => e.elim))
        clear t6 KP
        go_wp2_with fail
        refine (KW.out _ _ HK.out).mono ?_
        rintro e w9 ⟨rfl, t9⟩
        replace TK := hid (TK.out.trans t9 (fun _ _ e => e.elim))
        clear t9 KW
        go_wp2
        refine ⟨rfl, ?_⟩
        rw [← HA.out]
        exact ⟨rfl, TK.out⟩
end Go.Proofs.YtdhhcefmmojcmaaGreatDoor
