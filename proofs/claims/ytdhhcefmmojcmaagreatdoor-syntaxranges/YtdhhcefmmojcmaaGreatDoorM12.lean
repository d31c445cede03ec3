/- Texts of this proof, one behind the other: what each says stands ahead of it. -/
import Derived.Test.YtdhhcefmmojcmaaGreatDoorM8
import Derived.Test.YtdhhcefmmojcmaaGreatDoorKDd
import Derived.Test.YtdhhcefmmojcmaaGreatDoorM3
import Derived.Test.YtdhhcefmmojcmaaGreatDoorM4
import Derived.Test.YtdhhcefmmojcmaaGreatDoorM0
/- A parser of patterns: look, wrong, take, took, rowEnds; conditions: as told. -/
namespace Go.Proofs.YtdhhcefmmojcmaaGreatDoor
open Go.RowKit
open Go.Lib

set_option maxRecDepth 100000 in
set_option maxHeartbeats 4000000 in
theorem look_any (b : Nat) (X : Px) (k : Nat) (f : Fl) (vn : Value) (ns : List ByteArray) (op j : Nat) (w : World) (h : PS w b X k f vn ns op) (hk : k ≤ 2048) (hj : j ≤ 2048) :
    Calls Tryz.prog 46 #[.pointer (some ⟨b, 0, none⟩), .int .i64 (j : Nat)] w fun e w' => e = .returned (.int .i64 (lkR X.R (k + j))) ∧ ∃ m, w' = w.drewN m := by
  have c1 := h.c1
  have c5 := h.c5
  have HIO := hid h.runes
  clear h
  obtain ⟨n, hn⟩ : ∃ n, n = X.R.length := ⟨_, rfl⟩
  rw [← hn] at c1
  by_cases hlt : k + j < n
  · rcases HIO.out with h0 | ⟨g, o, ha, hc⟩
    · rw [h0] at hn; simp at hn; omega
    rw [ha] at c1
    have d0 := hc (k + j) (by rw [← hn]; exact hlt)
    rw [← lk_at (by rw [← hn]; exact hlt)] at d0
    clear hc ha HIO
    generalize lkR X.R (k + j) = x at *
    clear hn
    have hltI : ¬ (k : Int) + (j : Int) ≥ (n : Int) := by omega
    go_enter Tryz.func46, Tryz.ntmps46
    go_wp2_with fail
    go_quiet (fail)
    go_wp2_with fail
    go_quiet (fail)
    go_wp2
    go_ret
    first | exact ⟨rfl, _, rfl⟩ | exact ⟨rfl, _, World.drewN_drewN _ _ _⟩ | exact ⟨rfl, _, World.drewN_drewN⟩ | exact ⟨rfl, _, by simp only [World.drewN_drewN]; rfl⟩
  · have e : lkR X.R (k + j) = -1 := lk_out (by omega)
    rw [e]
    clear e HIO hn
    have hltI : (k : Int) + (j : Int) ≥ (n : Int) := by omega
    go_enter Tryz.func46, Tryz.ntmps46
    go_wp2_with fail
    go_quiet (fail)
    go_wp2
    go_ret
    first | exact ⟨rfl, _, rfl⟩ | exact ⟨rfl, _, World.drewN_drewN _ _ _⟩ | exact ⟨rfl, _, World.drewN_drewN⟩ | exact ⟨rfl, _, by simp only [World.drewN_drewN]; rfl⟩
theorem look_at (b : Nat) (X : Px) (k : Nat) (f : Fl) (vn : Value) (ns : List ByteArray) (op : Nat) (w : World) (h : PS w b X k f vn ns op) (hk : k ≤ 2048) :
    Calls Tryz.prog 46 #[.pointer (some ⟨b, 0, none⟩), .int .i64 0] w fun e w' => e = .returned (.int .i64 (lkR X.R k)) ∧ Touch (fun _ => False) w w' :=
  (look_any b X k f vn ns op 0 w h hk (by omega)).mono (fun e w' h => ⟨h.1, by obtain ⟨m, rfl⟩ := h.2; exact (Touch.refl _ _).drewN _⟩)

/-- What a parser throws. -/
def thrown (c : Nat) (p : Int) : Ending := .panicked [{ v := .iface 34 (.agg #[.int .i64 (c : Nat), .int .i64 p]), recovered := false }]
set_option maxRecDepth 100000 in
set_option maxHeartbeats 4000000 in
theorem wrong_any (b : Nat) (X : Px) (k : Nat) (f : Fl) (vn : Value) (ns : List ByteArray) (op c j : Nat) (w : World) (h : PS w b X k f vn ns op) (hj : j < X.P.length) :
    Calls Tryz.prog 47 #[.pointer (some ⟨b, 0, none⟩), .int .i64 (c : Nat), .int .i64 (j : Nat)] w fun e w' => e = .returned (.agg #[.int .i64 (c : Nat), .int .i64 (lkR X.P j)]) ∧ Touch (fun _ => False) w w' := by
  have c2 := h.c2
  have hb := h.lt
  have HIO := hid h.places
  have TA := hid ((Touch.refl (fun _ => False) w).alloc (.cells #[.int .i64 0, .int .i64 0] 34))
  have c2' := hid (h.new TA.out).c2
  clear h
  obtain ⟨n, hn⟩ : ∃ n, n = X.P.length := ⟨_, rfl⟩
  rw [← hn] at c2 c2' hj
  rcases HIO.out with h0 | ⟨g, o, ha, hc⟩
  · rw [h0] at hn; simp at hn; omega
  have d0 := hc j (by rw [← hn]; exact hj)
  rw [← lk_at (by rw [← hn]; exact hj)] at d0
  have hlt : g < w.heap.size := io_lt (l := X.P) (by rw [← ha]; exact HIO.out) (by intro e; rw [e] at hn; simp at hn; omega)
  have d1 := (TA.out.cell (p := ⟨g, o + j, none⟩) hlt id).trans d0
  have QB := hid (block_new w #[.int .i64 0, .int .i64 0] 34)
  rw [ha] at c2'
  clear hc ha HIO c2 d0 hlt hb
  generalize lkR X.P j = x at *
  clear hn
  have hjI : (j : Int) < (n : Int) := by omega
  go_enter Tryz.func47, Tryz.ntmps47
  go_upto_region 1 with fail
  have c2a := c2'.out
  have TB := TA.out
  have QC := QB.out
  clear c2' TA QB
  generalize w.alloc (.cells #[.int .i64 0, .int .i64 0] 34) = w1 at *
  obtain ⟨q, hq⟩ : ∃ q, q = w.heap.size := ⟨_, rfl⟩
  have HQ := hid (show w.heap.size ≤ q by omega)
  rw [← hq] at QC ⊢
  clear hq
  have q0 := cell_two0 QC
  have q1 := cell_two1 QC
  have qf0 := free_two (i := 0) QC
  have qf1 := free_two (i := 1) QC
  have HB := hid QC
  have T1 := hid TB
  clear QC TB
  go_wp2
  refine bodyPost_ret (results_c rfl _ _ q 34 _ (0, 0) _ rfl (two_set HB.out _ _) Tryz.underlying34 rfl (by kernel_rfl)) rfl ?_
  exact ⟨rfl, (T1.out.setCell (p := ⟨q, 0, none⟩) (fun h => by have := HQ.out; simp at h; omega) _).setCell (p := ⟨q, 1, none⟩) (fun h => by have := HQ.out; simp at h; omega) _⟩
set_option maxRecDepth 100000 in
set_option maxHeartbeats 4000000 in
theorem take_any (b : Nat) (X : Px) (k : Nat) (f : Fl) (vn : Value) (ns : List ByteArray) (op : Nat) (w : World) (h : PS w b X k f vn ns op) (hk : k ≤ 2040) :
    Calls Tryz.prog 108 #[.pointer (some ⟨b, 0, none⟩)] w fun e w' => e = .returned (.int .i64 (lkR X.R k)) ∧ PS w' b X (if lkR X.R k = -1 then k else k + 1) f vn ns op ∧ Touch (fun g => g = b) w w' := by
  have K := hid (look_at b X k f vn ns op w h (by omega))
  have HP := hid h
  clear h
  by_cases hl : lkR X.R k = -1
  · rw [if_pos hl]
    rw [hl] at K ⊢
    clear hl
    go_enter Tryz.func108, Tryz.ntmps108
    go_wp2_with fail
    refine K.out.mono ?_
    rintro e w1 ⟨rfl, t1⟩
    have H1 := hid (HP.out.new t1)
    have T1 := hid t1
    clear t1 K HP
    go_wp2
    go_ret
    exact ⟨rfl, H1.out, T1.out.mono (fun _ _ e => e.elim)⟩
  · rw [if_neg hl]
    have hlB : ((lkR X.R k) != (-1 : Int)) = true := by simpa using hl
    generalize lkR X.R k = x at *
    go_enter Tryz.func108, Tryz.ntmps108
    go_wp2_with fail
    refine K.out.mono ?_
    rintro e w1 ⟨rfl, t1⟩
    have H1 := hid (HP.out.new t1)
    have T1 := hid t1
    clear t1 K HP
    have c5 := H1.out.c5
    have f5 := H1.out.fr 5
    go_wp2
    go_ret
    exact ⟨rfl, H1.out.setk (k + 1), (T1.out.mono (S' := fun g => g = b) (fun _ _ e => e.elim)).trans (touch_one _ _ _ _) (fun _ _ e => e)⟩
set_option maxRecDepth 100000 in
set_option maxHeartbeats 4000000 in
theorem rowEnds_any (b : Nat) (X : Px) (k : Nat) (f : Fl) (vn : Value) (ns : List ByteArray) (op : Nat) (w : World) (h : PS w b X k f vn ns op) (hk : k ≤ 2048) :
    Calls Tryz.prog 93 #[.pointer (some ⟨b, 0, none⟩)] w fun e w' => e = .returned (.bool (endR (lkR X.R k))) ∧ Touch (fun _ => False) w w' := by
  have K := hid (look_at b X k f vn ns op w h hk)
  clear h
  unfold endR
  generalize lkR X.R k = x at *
  by_cases h1 : x = -1
  · subst h1
    go_enter Tryz.func93, Tryz.ntmps93
    go_wp2_with fail
    refine K.out.mono ?_
    rintro e w1 ⟨rfl, t1⟩
    have T1 := hid t1
    clear t1
    go_wp2
    go_ret
    exact ⟨rfl, T1.out⟩
  · by_cases h2 : x = 124
    · subst h2
      go_enter Tryz.func93, Tryz.ntmps93
      go_wp2_with fail
      refine K.out.mono ?_
      rintro e w1 ⟨rfl, t1⟩
      have T1 := hid t1
      clear t1
      go_wp2
      go_ret
      exact ⟨rfl, T1.out⟩
    · by_cases h3 : x = 41
      · subst h3
        go_enter Tryz.func93, Tryz.ntmps93
        go_wp2_with fail
        refine K.out.mono ?_
        rintro e w1 ⟨rfl, t1⟩
        have T1 := hid t1
        clear t1
        go_wp2
        go_ret
        exact ⟨rfl, T1.out⟩
      · have b1 : (x == -1) = false := beq_eq_false_iff_ne.2 h1
        have b2 : (x == 124) = false := beq_eq_false_iff_ne.2 h2
        have b3 : (x == 41) = false := beq_eq_false_iff_ne.2 h3
        rw [decide_eq_false h1, decide_eq_false h2, decide_eq_false h3]
        go_enter Tryz.func93, Tryz.ntmps93
        go_wp2_with fail
        refine K.out.mono ?_
        rintro e w1 ⟨rfl, t1⟩
        have T1 := hid t1
        clear t1
        go_wp2
        go_ret
        exact ⟨rfl, T1.out⟩
end Go.Proofs.YtdhhcefmmojcmaaGreatDoor

/- A parser of patterns: took; conditions: as told. -/
namespace Go.Proofs.YtdhhcefmmojcmaaGreatDoor
open Go.RowKit
open Go.Lib

/-- Does a word of ASCII stand at a place? -/
def tkB (R : List Int) : Nat → List UInt8 → Bool
  | _, [] => true
  | k, c :: l => decide (lkR R k = (c.toNat : Int)) && tkB R (k + 1) l
theorem byte_at (d : ByteArray) (i : Nat) (h : i < d.size) : d.data.toList.drop i = d[i] :: d.data.toList.drop (i + 1) := by
  rw [List.drop_eq_getElem_cons (by simpa using h)]
  rfl
theorem size_list (s : ByteArray) : s.data.toList.length = s.size := by rw [Array.length_toList]; rfl
theorem quiet_fit {w w' : World} {n : Nat} {v : Value} {e : Ending} (h : e = .returned v ∧ ∃ m, w' = (w.drewN n).drewN m) : e = .returned v ∧ ∃ m, w' = w.drewN m := by
  obtain ⟨h1, m, h2⟩ := h
  exact ⟨h1, n + m, by rw [h2]; exact World.drewN_drewN _ _ _⟩
set_option maxRecDepth 100000 in
set_option maxHeartbeats 4000000 in
theorem took_any (b : Nat) (X : Px) (k : Nat) (f : Fl) (vn : Value) (ns : List ByteArray) (op : Nat) (p : ByteArray) (w : World) (h : PS w b X k f vn ns op) (hk : k ≤ 2000) (hp : p.size ≤ 8) :
    Calls Tryz.prog 69 #[.pointer (some ⟨b, 0, none⟩), .string p] w fun e w' => e = .returned (.bool (tkB X.R k p.data.toList)) ∧ PS w' b X (if tkB X.R k p.data.toList = true then k + p.size else k) f vn ns op ∧ Touch (fun g => g = b) w w' := by
  obtain ⟨A, hA⟩ : ∃ A, A = tkB X.R k p.data.toList := ⟨_, rfl⟩
  have HX := hid hA.symm
  rw [← hA]
  obtain ⟨k2, hk2⟩ : ∃ k2, k2 = (if A = true then k + p.size else k) := ⟨_, rfl⟩
  have HK2 := hid hk2
  rw [← hk2]
  clear hA hk2
  have HP := hid h
  have TW := hid (Touch.refl (fun _ => False) w)
  clear h
  go_enter Tryz.func69, Tryz.ntmps69
  go_wp2_with fail
  go_loopg [8] p.size (fun gk v wq => ∃ i : Nat, i + gk = p.size ∧ v = .int .i64 (i : Nat) ∧ Hid (PS wq b X k f vn ns op) ∧ Hid (tkB X.R (k + i) (p.data.toList.drop i) = A) ∧ Hid (Touch (fun _ => False) w wq))
  case atStart => exact ⟨0, by omega, rfl, HP, HX, TW⟩
  case round =>
    obtain ⟨i, hi, rfl, HK, HD, TK⟩ := hrel
    clear HP TW HX
    by_cases hlt : i < p.size
    · have hl : (i : Int) < (p.size : Int) := by omega
      rw [byte_at p i hlt, tkB] at HD
      obtain ⟨c, hc⟩ : ∃ c, c = p[i] := ⟨_, rfl⟩
      rw [← hc] at HD
      have hix : ∀ w, (Instr.index 9 (.string p) (.int .i64 (i : Nat))).run Tryz.prog w = .ok (.int .u8 ((c.toNat : Nat) : Int)) w := fun w => by
        rw [hc]
        simp [go_sem, hl]
      have hc256 : (c.toNat : Int) < 256 := by have := c.toNat_lt; omega
      have hwr : IntKind.i64.wrap ((c.toNat : Nat) : Int) = ((c.toNat : Nat) : Int) := by rw [IntKind.wrap_i64]; omega
      have K := hid (fun n => look_any b X k f vn ns op i (wr.drewN n) (HK.out.new ((Touch.refl _ _).drewN n)) (by omega) (by omega))
      clear hc
      by_cases he : lkR X.R (k + i) = (c.toNat : Int)
      · rw [decide_eq_true he, Bool.true_and] at HD
        have hne : ((c.toNat : Int) != (c.toNat : Int)) = false := by simp
        rw [he] at K
        clear he
        go_wp2_with fail
        go_quiet (exact (K.out _).mono (fun e w' h => quiet_fit h))
        go_wp2
        go_roundg (gk - 1)
        case measure => omega
        case rel => exact ⟨i + 1, by omega, by go_num, hid (HK.out.new ((Touch.refl _ _).drewN _)), HD, hid (TK.out.drewN _)⟩
      · rw [decide_eq_false he, Bool.false_and] at HD
        have hne : (lkR X.R (k + i) != (c.toNat : Int)) = true := by simpa using he
        generalize lkR X.R (k + i) = x at *
        clear he
        go_wp2_with fail
        go_quiet (exact (K.out _).mono (fun e w' h => quiet_fit h))
        go_wp2
        go_ret
        have := HD.out
        subst this
        exact ⟨rfl, by rw [HK2.out, if_neg (by decide)]; exact HK.out.new ((Touch.refl _ _).drewN _), (TK.out.drewN _).mono (fun _ _ e => e.elim)⟩
    · have hl : ¬ (i : Int) < (p.size : Int) := by omega
      have HF := hid (show i = p.size by omega)
      rw [List.drop_eq_nil_of_le (by rw [size_list]; omega), tkB] at HD
      have c5 := HK.out.c5
      have f5 := HK.out.fr 5
      go_wp2
      go_ret
      have := HD.out
      subst this
      exact ⟨rfl, by rw [HK2.out, if_pos rfl]; exact HK.out.setk (k + p.size), (TK.out.mono (S' := fun g => g = b) (fun _ _ e => e.elim)).trans (touch_one _ _ _ _) (fun _ _ e => e)⟩
end Go.Proofs.YtdhhcefmmojcmaaGreatDoor

/- Or of two sets: what it answers; no condition beside those told. -/
namespace Go.Proofs.YtdhhcefmmojcmaaGreatDoor
open Go.RowKit

set_option maxRecDepth 100000 in
set_option maxHeartbeats 4000000 in
theorem or_says (a1 a2 : Option Addr) (c1 c2 : Nat) (s t : List R2) (w : World) (h1 : Rg w a1 s) (h2 : Rg w a2 t) (hs : Canon s) (ht : Canon t) :
    Calls Tryz.prog 21 #[.slice a1 s.length c1, .slice a2 t.length c2] w fun e w' => ∃ v n, e = .returned v ∧ Canon n ∧ (∀ x, In x n ↔ In x s ∨ In x t) ∧ OwE w w' 60 v n := by
  have l1 := canon_len hs
  have l2 := canon_len ht
  have H1 := hid h1
  have H2 := hid h2
  have HS := hid hs
  have HT := hid ht
  have T0 := hid ((Touch.refl (fun _ => False) w).alloc (.cells #[.slice a1 s.length c1, .slice a2 t.length c2] 25))
  have B := hid (show (w.alloc (.cells #[.slice a1 s.length c1, .slice a2 t.length c2] 25)).heap[w.heap.size]? = some (.cells #[.slice a1 s.length c1, .slice a2 t.length c2] 25 (0, 0)) from by show (w.heap.push _)[_]? = _; simp)
  clear h1 h2 hs ht
  go_enter Tryz.func21, Tryz.ntmps21
  go_wp2_with fail
  generalize (w.alloc (.cells #[.slice a1 s.length c1, .slice a2 t.length c2] 25)) = w1 at *
  refine (concat_any w.heap.size a1 a2 c1 c2 s t w1 (lt_of_block B.out) (cell_two0 B.out) (cell_two1 B.out) (H1.out.new T0.out) (H2.out.new T0.out) (by omega)).mono ?_
  rintro e w2 ⟨v, rfl, hown, hnew, tc⟩
  have T2 := hid (T0.out.trans tc (fun _ _ e => e))
  have hlen : (s ++ t).length = s.length + t.length := List.length_append
  obtain ⟨u, hu⟩ : ∃ u, u = s ++ t := ⟨_, rfl⟩
  rw [← hu] at hlen hown
  have HU := hid hu
  clear hu
  obtain ⟨a3, c3, hv, hrg⟩ := own_rg hown
  subst hv
  have K := hid (of_says a3 c3 u w2 hrg (by omega))
  clear hown hnew tc hrg hlen
  go_wp2_with fail
  refine K.out.mono ?_
  rintro e w3 ⟨v, n, rfl, hcn, hin, ow⟩
  have OW := hid ow
  have HCN := hid hcn
  have HIN := hid hin
  obtain ⟨a4, c4, hv⟩ := own_shape ow.own
  subst hv
  clear ow hcn hin K
  go_wp2
  go_ret
  refine ⟨_, n, rfl, HCN.out, fun x => ?_, ⟨OW.out.own, fun g e => Nat.le_trans T2.out.size (OW.out.new g e), T2.out.trans OW.out.touch (fun _ _ e => e)⟩⟩
  rw [HIN.out x, HU.out, in_append]
  refine ⟨fun h => h.2, fun h => ⟨?_, h⟩⟩
  rcases h with ⟨r, hr, q1, q2⟩ | ⟨r, hr, q1, q2⟩
  · have := HS.out.in_ r hr
    unfold inB at this
    omega
  · have := HT.out.in_ r hr
    unfold inB at this
    omega
end Go.Proofs.YtdhhcefmmojcmaaGreatDoor

/- The search for the range in which a number may be; no condition. -/
namespace Go.Proofs.YtdhhcefmmojcmaaGreatDoor
open Go.RowKit

set_option maxRecDepth 100000 in
set_option maxHeartbeats 4000000 in
theorem closure29 (br bs : Nat) (r : Int) (a : Option Addr) (cap : Nat) (s : List R2) (i : Nat) (hi : i < s.length) (y : Int) (hy : y = s[i].2) (w : World) (hr : w.cell? ⟨br, 0, none⟩ = some (.int .i64 r)) (hs : w.cell? ⟨bs, 0, none⟩ = some (.slice a s.length cap)) (hl : Rg w a s) :
    Calls Tryz.prog 31 (#[.int .i64 i] ++ #[.pointer (some ⟨br, 0, none⟩), .pointer (some ⟨bs, 0, none⟩)]) w fun e w' => e = .returned (.bool (decide (r ≤ y))) ∧ Touch (fun _ => False) w w' := by
  obtain ⟨b, o, rfl, _, hcell⟩ : ∃ b o, a = some ⟨b, o, none⟩ ∧ b < w.heap.size ∧ ∀ i (h : i < s.length), w.cell? ⟨b, o + i * 2, none⟩ = some (.int .i64 (s[i]).1) ∧ w.cell? ⟨b, o + i * 2 + 1, none⟩ = some (.int .i64 (s[i]).2) := by
    rcases hl with h | h
    · rw [h] at hi; simp at hi
    · exact h
  obtain ⟨d0, d1⟩ := hcell i hi
  generalize s[i].1 = x at d0
  rw [← hy] at d1
  clear hy
  have hiI : (i : Int) < (s.length : Int) := by omega
  clear hcell
  go_enter Tryz.func31, Tryz.ntmps31
  go_wp2_with fail
  go_quiet (fail)
  go_wp2
  go_ret
  exact ⟨rfl, (Touch.refl _ _).drewN _⟩

set_option maxRecDepth 100000 in
set_option maxHeartbeats 4000000 in
theorem search_any (br bs : Nat) (r : Int) (a : Option Addr) (cap : Nat) (s : List R2) (w : World) (hbr : br < w.heap.size) (hbs : bs < w.heap.size) (hr : w.cell? ⟨br, 0, none⟩ = some (.int .i64 r)) (hs : w.cell? ⟨bs, 0, none⟩ = some (.slice a s.length cap)) (hl : Rg w a s)
    (hmono : ∀ i j (hi : i < s.length) (hj : j < s.length), i ≤ j → s[i].2 ≤ s[j].2) (hb : s.length ≤ 4194304) :
    Calls Tryz.prog 30 #[.int .i64 s.length, .func (.func 31) #[] #[.pointer (some ⟨br, 0, none⟩), .pointer (some ⟨bs, 0, none⟩)]] w fun e w' => ∃ k : Nat, e = .returned (.int .i64 k) ∧ k ≤ s.length ∧ (∀ t (_ : t < k) (hl : t < s.length), ¬ r ≤ s[t].2) ∧ (∀ t (_ : k ≤ t) (hl : t < s.length), r ≤ s[t].2) ∧ Touch (fun _ => False) w w' := by
  have HC := hid (fun (wq : World) (tc : Touch (fun _ => False) w wq) (i : Nat) (hi : i < s.length) (y : Int) (hy : y = s[i].2) => closure29 br bs r a cap s i hi y hy wq ((tc.cell (p := ⟨br, 0, none⟩) hbr id).trans hr) ((tc.cell (p := ⟨bs, 0, none⟩) hbs id).trans hs) (hl.new tc))
  have M := hid hmono
  clear hr hs hl hmono hbr hbs
  go_enter Tryz.func30, Tryz.ntmps30
  go_wp2_with fail
  go_loopg [5, 6] s.length (fun gk x y wr => ∃ lo hi : Nat, x = .int .i64 lo ∧ y = .int .i64 hi ∧ lo ≤ hi ∧ hi ≤ s.length ∧ hi - lo ≤ gk ∧ Hid ((∀ t (_ : t < lo) (hl : t < s.length), ¬ r ≤ s[t].2) ∧ (∀ t (_ : hi ≤ t) (hl : t < s.length), r ≤ s[t].2)) ∧ Touch (fun _ => False) w wr)
  case atStart => exact ⟨0, s.length, rfl, rfl, Nat.zero_le _, Nat.le_refl _, by omega, hid ⟨fun t ht => absurd ht (Nat.not_lt_zero _), fun t h1 h2 => by omega⟩, Touch.refl _ _⟩
  case round =>
    obtain ⟨lo, hi, rfl, rfl, hlh, hin, hg, I, htc⟩ := hrel
    have TC := hid htc
    clear htc
    by_cases hlt : lo < hi
    · have hmid : (lo + hi) / 2 < s.length := by omega
      have HMID := hid hmid
      obtain ⟨y, hy⟩ : ∃ y, y = s[(lo + hi) / 2].2 := ⟨_, rfl⟩
      have hc := HC.out wr TC.out ((lo + hi) / 2) hmid y hy
      rw [show (((lo + hi) / 2 : Nat) : Int) = ((lo : Int) + (hi : Int)) / 2 by omega] at hc
      have HY := hid hy
      clear hy hmid
      by_cases hp : r ≤ y
      · rw [decide_eq_true hp] at hc
        have HP := hid hp
        clear hp
        go_wp2_with fail
        refine hc.mono ?_
        rintro e w' ⟨rfl, tc⟩
        have T2 := hid (TC.out.trans tc (fun _ _ e => e))
        clear tc hc
        go_wp2_with fail
        go_roundg ((lo + hi) / 2 - lo)
        case measure => omega
        case rel =>
          exact ⟨lo, (lo + hi) / 2, rfl, by rw [show ((lo : Int) + (hi : Int)) / 2 = (((lo + hi) / 2 : Nat) : Int) by omega], by omega, by omega, Nat.le_refl _, hid ⟨I.out.1, fun t ht htl => by have h1 := M.out _ t HMID.out htl ht; have h2 := HP.out; rw [HY.out] at h2; omega⟩, T2.out⟩
      · rw [decide_eq_false hp] at hc
        have HP := hid hp
        clear hp
        go_wp2_with fail
        refine hc.mono ?_
        rintro e w' ⟨rfl, tc⟩
        have T2 := hid (TC.out.trans tc (fun _ _ e => e))
        clear tc hc
        go_wp2_with fail
        go_roundg (hi - ((lo + hi) / 2 + 1))
        case measure => omega
        case rel =>
          exact ⟨(lo + hi) / 2 + 1, hi, by rw [show ((lo : Int) + (hi : Int)) / 2 + 1 = (((lo + hi) / 2 + 1 : Nat) : Int) by omega], rfl, by omega, hin, Nat.le_refl _, hid ⟨fun t ht htl => by have h1 := M.out t _ htl HMID.out (by omega); have h2 := HP.out; rw [HY.out] at h2; omega, I.out.2⟩, T2.out⟩
    · obtain rfl : hi = lo := by omega
      go_wp2
      go_ret
      exact ⟨hi, rfl, hin, I.out.1, I.out.2, TC.out⟩
end Go.Proofs.YtdhhcefmmojcmaaGreatDoor

/- How many numbers a list of ranges has, plain facts; no condition beside those told. -/
namespace Go.Proofs.YtdhhcefmmojcmaaGreatDoor

def hasB (x : Int) (s : List R2) : Bool := s.any fun r => decide (r.1 ≤ x) && decide (x ≤ r.2)
theorem hasB_iff {x : Int} {s : List R2} : hasB x s = true ↔ In x s := by
  unfold hasB In
  simp [List.any_eq_true]
theorem hasB_eq {x : Int} {s : List R2} {p : Bool} (h : In x s ↔ p = true) : hasB x s = p := by
  rw [Bool.eq_iff_iff, hasB_iff, h]

def cnt (N : Nat) (p : Nat → Bool) : Nat := (List.range N).countP p
theorem cnt_zero (p : Nat → Bool) : cnt 0 p = 0 := rfl
theorem cnt_succ (N : Nat) (p : Nat → Bool) : cnt (N + 1) p = cnt N p + (if p N = true then 1 else 0) := by
  unfold cnt
  rw [List.range_succ, List.countP_append, List.countP_singleton]
theorem cnt_or (p q : Nat → Bool) : ∀ N, cnt N (fun i => p i || q i) + cnt N (fun i => p i && q i) = cnt N p + cnt N q
  | 0 => rfl
  | N + 1 => by
    have := cnt_or p q N
    rw [cnt_succ, cnt_succ, cnt_succ, cnt_succ]
    cases p N <;> cases q N <;> simp <;> omega
theorem cnt_not (p : Nat → Bool) : ∀ N, cnt N p + cnt N (fun i => !p i) = N
  | 0 => rfl
  | N + 1 => by
    have := cnt_not p N
    rw [cnt_succ, cnt_succ]
    cases p N <;> simp <;> omega
theorem cnt_none (p : Nat → Bool) (h : ∀ i, p i = false) : ∀ N, cnt N p = 0
  | 0 => rfl
  | N + 1 => by rw [cnt_succ, cnt_none p h N, h N]; rfl
theorem cnt_same (p q : Nat → Bool) : ∀ N, (∀ i, i < N → p i = q i) → cnt N p = cnt N q
  | 0, _ => rfl
  | N + 1, h => by rw [cnt_succ, cnt_succ, cnt_same p q N (fun i hi => h i (by omega)), h N (by omega)]
theorem cnt_le (p q : Nat → Bool) : ∀ N, (∀ i, i < N → p i = true → q i = true) → cnt N p ≤ cnt N q
  | 0, _ => Nat.le_refl _
  | N + 1, h => by
    have h1 := cnt_le p q N (fun i hi => h i (by omega))
    have h2 := h N (by omega)
    rw [cnt_succ, cnt_succ]
    cases hp : p N
    · simp; omega
    · rw [h2 hp]; simp; omega
theorem cnt_iv_at (a b : Int) (ha : 0 ≤ a) (hab : a ≤ b + 1) : ∀ N : Nat, (cnt N (fun i => decide (a ≤ (i : Int)) && decide ((i : Int) ≤ b)) : Int) = min (N : Int) (b + 1) - min (N : Int) a
  | 0 => by rw [cnt_zero]; omega
  | N + 1 => by
    have := cnt_iv_at a b ha hab N
    rw [cnt_succ]
    by_cases h1 : a ≤ (N : Int) <;> by_cases h2 : (N : Int) ≤ b
    · simp only [h1, h2, decide_true, Bool.and_self, if_true]
      omega
    · simp only [h1, h2, decide_true, decide_false, Bool.and_false, Bool.false_eq_true, if_false]
      omega
    · simp only [h1, h2, decide_true, decide_false, Bool.false_and, Bool.false_eq_true, if_false]
      omega
    · simp only [h1, h2, decide_false, Bool.false_and, Bool.false_eq_true, if_false]
      omega
def sizeL (s : List R2) : Int := (s.map fun r => r.2 - r.1 + 1).sum
theorem sizeL_nil : sizeL [] = 0 := rfl
theorem sizeL_cons (r : R2) (s : List R2) : sizeL (r :: s) = (r.2 - r.1 + 1) + sizeL s := by simp [sizeL]
theorem sizeL_append (s t : List R2) : sizeL (s ++ t) = sizeL s + sizeL t := by simp [sizeL]

theorem size_cnt_at (N : Nat) : ∀ s : List R2, (∀ r ∈ s, 0 ≤ r.1 ∧ r.1 ≤ r.2 ∧ r.2 < N) → s.Pairwise (fun a b => a.2 + 1 < b.1) → sizeL s = (cnt N (fun i => hasB i s) : Nat)
  | [], _, _ => by
    rw [cnt_none _ (fun i => by simp [hasB]) N]
    rfl
  | r :: s, hin, hup => by
    have hp := List.pairwise_cons.1 hup
    have hr := hin r (by simp)
    have ih := size_cnt_at N s (fun a ha => hin a (by simp [ha])) hp.2
    have h1 := cnt_or (fun i => decide (r.1 ≤ (i : Int)) && decide ((i : Int) ≤ r.2)) (fun i => hasB i s) N
    have h2 : cnt N (fun i => (decide (r.1 ≤ (i : Int)) && decide ((i : Int) ≤ r.2)) && hasB i s) = 0 := by
      refine cnt_none _ (fun i => ?_) N
      by_cases h : (decide (r.1 ≤ (i : Int)) && decide ((i : Int) ≤ r.2)) = true
      · by_cases k : hasB (i : Int) s = true
        · obtain ⟨q, hq, h3, _⟩ := hasB_iff.1 k
          have := hp.1 q hq
          simp only [Bool.and_eq_true, decide_eq_true_eq] at h
          omega
        · simp [k]
      · rw [Bool.not_eq_true] at h
        simp [h]
    have h3 := cnt_iv_at r.1 r.2 hr.1 (by omega) N
    have h4 : cnt N (fun i => hasB i (r :: s)) = cnt N (fun i => (decide (r.1 ≤ (i : Int)) && decide ((i : Int) ≤ r.2)) || hasB i s) := by
      refine cnt_same _ _ N (fun i _ => ?_)
      simp [hasB]
    rw [sizeL_cons, h4, ih]
    rw [h2] at h1
    omega

theorem size_cnt {s : List R2} (h : Canon s) : sizeL s = (cnt 1114112 (fun i => hasB i s) : Nat) := by
  refine size_cnt_at 1114112 s (fun r hr => ?_) h.up
  have := h.in_ r hr
  unfold inB at this
  exact ⟨this.1, by omega, by omega⟩
theorem cnt_top (N : Nat) (p : Nat → Bool) : cnt N p ≤ N := by
  have := cnt_not p N
  omega
theorem sizeL_pos {s : List R2} (h : Canon s) : 0 ≤ sizeL s ∧ sizeL s ≤ 1114112 := by
  rw [size_cnt h]
  have := cnt_top 1114112 (fun i => hasB i s)
  omega
theorem size_not {s n : List R2} (h : Canon s) (k : Canon n) (hn : ∀ x, In x n ↔ (0 ≤ x ∧ x ≤ 1114111) ∧ ¬ In x s) : sizeL s + sizeL n = 1114112 := by
  rw [size_cnt h, size_cnt k, cnt_same (fun i => hasB i n) (fun i => !hasB i s) 1114112 (fun i hi => ?_)]
  · have := cnt_not (fun i => hasB i s) 1114112
    omega
  · refine hasB_eq ?_
    rw [hn, Bool.not_eq_true', ← Bool.not_eq_true, hasB_iff]
    constructor
    · exact fun h => h.2
    · exact fun h => ⟨by omega, h⟩
theorem size_or {s t o a : List R2} (hs : Canon s) (ht : Canon t) (ho : Canon o) (ha : Canon a) (h1 : ∀ x, In x o ↔ In x s ∨ In x t) (h2 : ∀ x, In x a ↔ In x s ∧ In x t) : sizeL o = sizeL s + sizeL t - sizeL a := by
  have := cnt_or (fun i => hasB i s) (fun i => hasB i t) 1114112
  rw [size_cnt hs, size_cnt ht, size_cnt ho, size_cnt ha,
    cnt_same (fun i => hasB i o) (fun i => hasB i s || hasB i t) 1114112 (fun i hi => hasB_eq (by rw [h1, Bool.or_eq_true, hasB_iff, hasB_iff])),
    cnt_same (fun i => hasB i a) (fun i => hasB i s && hasB i t) 1114112 (fun i hi => hasB_eq (by rw [h2, Bool.and_eq_true, hasB_iff, hasB_iff]))]
  omega
end Go.Proofs.YtdhhcefmmojcmaaGreatDoor

/- Where a number would be in a list of ranges that rises, plain facts; no condition beside those told. -/
namespace Go.Proofs.YtdhhcefmmojcmaaGreatDoor

theorem canon_lt {s : List R2} (h : Canon s) (i j : Nat) (hi : i < s.length) (hj : j < s.length) (hij : i < j) : s[i].2 + 1 < s[j].1 := (List.pairwise_iff_getElem.1 h.up) i j hi hj hij
theorem canon_mono {s : List R2} (h : Canon s) (i j : Nat) (hi : i < s.length) (hj : j < s.length) (hij : i ≤ j) : s[i].2 ≤ s[j].2 := by
  rcases Nat.lt_or_ge i j with k | k
  · have h1 := canon_lt h i j hi hj k
    have h2 := h.in_ s[j] (List.getElem_mem _)
    unfold inB at h2
    omega
  · obtain rfl : i = j := by omega
    exact Int.le_refl _
theorem has_none {s : List R2} (x : Int) (h1 : ∀ t (hl : t < s.length), ¬ x ≤ s[t].2) : hasB x s = false := by
  rw [← Bool.not_eq_true, hasB_iff]
  rintro ⟨r, hr, _, k⟩
  obtain ⟨t, ht, rfl⟩ := List.getElem_of_mem hr
  exact h1 t ht k
theorem has_at {s : List R2} (h : Canon s) (x : Int) (k : Nat) (hk : k < s.length) (h1 : ∀ t (_ : t < k) (hl : t < s.length), ¬ x ≤ s[t].2) (h2 : x ≤ s[k].2) : hasB x s = decide (s[k].1 ≤ x) := by
  refine hasB_eq ?_
  rw [decide_eq_true_eq]
  constructor
  · rintro ⟨r, hr, k1, k2⟩
    obtain ⟨t, ht, rfl⟩ := List.getElem_of_mem hr
    rcases Nat.lt_trichotomy t k with q | q | q
    · exact absurd k2 (h1 t q ht)
    · subst q
      exact k1
    · have := canon_lt h k t hk ht q
      omega
  · exact fun q => ⟨s[k], List.getElem_mem _, q, h2⟩
end Go.Proofs.YtdhhcefmmojcmaaGreatDoor
