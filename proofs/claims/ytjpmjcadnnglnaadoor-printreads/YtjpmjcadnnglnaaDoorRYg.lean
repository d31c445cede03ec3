/- Texts of this proof, one behind the other: what each says stands ahead of it. -/
import Derived.Test.YtjpmjcadnnglnaaDoorRYa
import Derived.Test.YtjpmjcadnnglnaaDoorRYc
import Derived.Test.YtjpmjcadnnglnaaDoorWv
/- The document's count; conditions: as told. -/
namespace Go.Proofs.YtjpmjcadnnglnaaDoor
open Go.RowKit
open Go.Lib

set_option maxRecDepth 100000 in
set_option maxHeartbeats 4000000 in
theorem count_no (k : Int) (t : ByteArray) (a2 a3 : Option Addr) (n2 c2 n3 c3 : Nat) (w : World) (hk : k ≠ 3 ∨ ¬ t.size ≤ 18) :
    Calls Tryd.prog 12 #[.agg #[.int .i64 k, .string t, .slice a2 n2 c2, .slice a3 n3 c3]] w fun e w' => e = .returned (.int .i64 (-1)) ∧ Touch (fun _ => False) w w' := by
  have T0 := hid ((Touch.refl (fun _ => False) w).alloc (.cells #[.int .i64 k, .string t, .slice a2 n2 c2, .slice a3 n3 c3] 53))
  by_cases h3 : k = 3
  · have hl : (18 : Int) < (t.size : Int) := by omega
    subst h3
    clear hk
    go_enter Tryd.func12, Tryd.ntmps12
    go_wp2
    go_ret
    exact ⟨rfl, T0.out⟩
  · have hb : (k != 3) = true := by simp; exact h3
    clear hk
    go_enter Tryd.func12, Tryd.ntmps12
    go_wp2
    go_ret
    exact ⟨rfl, T0.out⟩
set_option maxRecDepth 100000 in
set_option maxHeartbeats 4000000 in
theorem count_lead (t : ByteArray) (a2 a3 : Option Addr) (n2 c2 n3 c3 : Nat) (w : World) (hs : t.size ≤ 18) (hl : 1 < t.size) (h0 : t[0]'(by omega) = 48) :
    Calls Tryd.prog 12 #[.agg #[.int .i64 3, .string t, .slice a2 n2 c2, .slice a3 n3 c3]] w fun e w' => e = .returned (.int .i64 (-1)) ∧ Touch (fun _ => False) w w' := by
  have T0 := hid ((Touch.refl (fun _ => False) w).alloc (.cells #[.int .i64 3, .string t, .slice a2 n2 c2, .slice a3 n3 c3] 53))
  have hs18 : ¬ (18 : Int) < (t.size : Int) := by omega
  have hl1 : (1 : Int) < (t.size : Int) := by omega
  have h00 : (0 : Int) < (t.size : Int) := by omega
  have hx : ∀ w, (Instr.index 9 (.string t) (.int .i64 0)).run Tryd.prog w = .ok (.int .u8 48) w := fun w => by
    have e : t[0]'(by omega) = (48 : UInt8) := h0
    have ne : t ≠ ByteArray.empty := by intro e; rw [e] at hl; exact absurd hl (by decide)
    simp [go_sem, ne, e]
  clear h0
  go_enter Tryd.func12, Tryd.ntmps12
  go_wp2
  go_ret
  exact ⟨rfl, T0.out⟩
set_option maxRecDepth 100000 in
set_option maxHeartbeats 4000000 in
theorem count_one (t : ByteArray) (a2 a3 : Option Addr) (n2 c2 n3 c3 : Nat) (w : World) (hs : t.size ≤ 18) (hl : ¬ 1 < t.size) :
    Calls Tryd.prog 12 #[.agg #[.int .i64 3, .string t, .slice a2 n2 c2, .slice a3 n3 c3]] w fun e w' => e = .returned (.int .i64 (cntI 3 t)) ∧ Touch (fun _ => False) w w' := by
  have T0 := hid ((Touch.refl (fun _ => False) w).alloc (.cells #[.int .i64 3, .string t, .slice a2 n2 c2, .slice a3 n3 c3] 53))
  have B0 := hid (jfour_new (w := w) (.int .i64 3) (.string t) (.slice a2 n2 c2) (.slice a3 n3 c3) 53)
  have hl : ¬ (18 : Int) < (t.size : Int) := by omega
  have HY := hid (fun (hd : dgAll t = true) => num_yes hs hd)
  have HN := hid (fun (hd : dgAll t = false) => num_dig (k := 3) hd)
  have hl1 : ¬ (1 : Int) < (t.size : Int) := by omega
  go_enter Tryd.func12, Tryd.ntmps12
  go_upto_region 1 with fail
  generalize w.alloc (.cells #[.int .i64 3, .string t, .slice a2 n2 c2, .slice a3 n3 c3] 53) = w1 at *
  generalize w.heap.size = q at *
  obtain ⟨⟨q0, q1, q2, q3⟩, _⟩ := cells4 B0.out
  go_wp2_with fail
  go_loopg [4, 5] t.size (fun gk v4 v5 wq => ∃ i : Nat, i + gk = t.size ∧ v5 = .int .i64 (i : Nat) ∧ v4 = .int .i64 (dv t i : Nat) ∧ Hid (dgTo t i) ∧ wq = w1)
  case atStart => exact ⟨0, by omega, rfl, rfl, hid (fun j _ h => by omega), rfl⟩
  case round =>
    obtain ⟨i, hi, rfl, rfl, HD, rfl⟩ := hrel
    by_cases hlt : i < t.size
    · have hltI : (i : Int) < (t.size : Int) := by omega
      have hsm := dv_small2 (by omega) HD.out (show i ≤ 17 by omega)
      have HM := hid (dv_more t i hlt)
      have hc := t[i].toNat_lt
      by_cases hd : 48 ≤ t[i].toNat ∧ t[i].toNat ≤ 57
      · obtain ⟨hd1, hd2⟩ := hd
        have HC := hid (show 10 * (dv t i : Int) + ((t[i].toNat : Int) - 48) = ((dv t (i + 1) : Nat) : Int) from by rw [HM.out]; omega)
        have HD2 := hid (show dgTo t (i + 1) from fun j hj hji => by
          rcases Nat.lt_or_ge j i with h | h
          · exact HD.out j hj h
          · have : j = i := by omega
            subst this
            exact ⟨hd1, hd2⟩)
        have hd1I : ¬ (t[i].toNat : Int) < 48 := by omega
        have hd2I : ¬ (57 : Int) < (t[i].toNat : Int) := by omega
        have hwr := wrap8 ((t[i].toNat : Int) - 48) (by omega)
        generalize hx : t[i].toNat = x at *
        generalize hdv : dv t i = D at *
        go_wp2
        go_roundg (gk - 1)
        case measure => omega
        case rel => exact ⟨i + 1, by omega, by go_num, by rw [← HC.out], HD2, rfl⟩
      · have HX := hid (HN.out (dg_no hlt hd))
        have HX2 : Hid (cntI 3 t = -1) := hid (by unfold cntI; rw [HX.out]; rfl)
        by_cases hd1 : (t[i].toNat : Int) < 48
        · go_wp2
          go_ret
          refine ⟨?_, T0.out⟩
          rw [HX2.out]
          rfl
        · have hd2I : (57 : Int) < (t[i].toNat : Int) := by omega
          go_wp2
          go_ret
          refine ⟨?_, T0.out⟩
          rw [HX2.out]
          rfl
    · have hltI : ¬ (i : Int) < (t.size : Int) := by omega
      obtain rfl : i = t.size := by omega
      have HX := hid (HY.out (dg_yes HD.out))
      have HX2 : Hid (cntI 3 t = (dv t t.size : Int)) := hid (by unfold cntI; rw [HX.out]; rfl)
      go_wp2
      go_ret
      refine ⟨?_, T0.out⟩
      rw [HX2.out]
      rfl
set_option maxRecDepth 100000 in
set_option maxHeartbeats 4000000 in
theorem count_two (t : ByteArray) (a2 a3 : Option Addr) (n2 c2 n3 c3 : Nat) (w : World) (hs : t.size ≤ 18) (hl0 : 1 < t.size) (h0 : t[0]'(by omega) ≠ 48) :
    Calls Tryd.prog 12 #[.agg #[.int .i64 3, .string t, .slice a2 n2 c2, .slice a3 n3 c3]] w fun e w' => e = .returned (.int .i64 (cntI 3 t)) ∧ Touch (fun _ => False) w w' := by
  have T0 := hid ((Touch.refl (fun _ => False) w).alloc (.cells #[.int .i64 3, .string t, .slice a2 n2 c2, .slice a3 n3 c3] 53))
  have B0 := hid (jfour_new (w := w) (.int .i64 3) (.string t) (.slice a2 n2 c2) (.slice a3 n3 c3) 53)
  have hl : ¬ (18 : Int) < (t.size : Int) := by omega
  have HY := hid (fun (hd : dgAll t = true) => num_yes hs hd)
  have HN := hid (fun (hd : dgAll t = false) => num_dig (k := 3) hd)
  have hl1 : (1 : Int) < (t.size : Int) := by omega
  have h00 : (0 : Int) < (t.size : Int) := by omega
  obtain ⟨y, hy⟩ : ∃ y : Int, y = ((t[0]'(by omega)).toNat : Int) := ⟨_, rfl⟩
  have hx0 : ∀ w, (Instr.index 9 (.string t) (.int .i64 0)).run Tryd.prog w = .ok (.int .u8 y) w := fun w => by
    have hp : 0 < t.size := by omega
    rw [hy]
    simp [go_sem, hp]
  have hy48 : (y == 48) = false := by
    simp
    intro e
    apply h0
    apply UInt8.toNat_inj.1
    show (t[0]'(by omega)).toNat = 48
    omega
  clear hy h0
  go_enter Tryd.func12, Tryd.ntmps12
  go_upto_region 1 with fail
  generalize w.alloc (.cells #[.int .i64 3, .string t, .slice a2 n2 c2, .slice a3 n3 c3] 53) = w1 at *
  generalize w.heap.size = q at *
  obtain ⟨⟨q0, q1, q2, q3⟩, _⟩ := cells4 B0.out
  go_wp2_with fail
  go_loopg [4, 5] t.size (fun gk v4 v5 wq => ∃ i : Nat, i + gk = t.size ∧ v5 = .int .i64 (i : Nat) ∧ v4 = .int .i64 (dv t i : Nat) ∧ Hid (dgTo t i) ∧ wq = w1)
  case atStart => exact ⟨0, by omega, rfl, rfl, hid (fun j _ h => by omega), rfl⟩
  case round =>
    obtain ⟨i, hi, rfl, rfl, HD, rfl⟩ := hrel
    by_cases hlt : i < t.size
    · have hltI : (i : Int) < (t.size : Int) := by omega
      have hsm := dv_small2 (by omega) HD.out (show i ≤ 17 by omega)
      have HM := hid (dv_more t i hlt)
      have hc := t[i].toNat_lt
      by_cases hd : 48 ≤ t[i].toNat ∧ t[i].toNat ≤ 57
      · obtain ⟨hd1, hd2⟩ := hd
        have HC := hid (show 10 * (dv t i : Int) + ((t[i].toNat : Int) - 48) = ((dv t (i + 1) : Nat) : Int) from by rw [HM.out]; omega)
        have HD2 := hid (show dgTo t (i + 1) from fun j hj hji => by
          rcases Nat.lt_or_ge j i with h | h
          · exact HD.out j hj h
          · have : j = i := by omega
            subst this
            exact ⟨hd1, hd2⟩)
        have hd1I : ¬ (t[i].toNat : Int) < 48 := by omega
        have hd2I : ¬ (57 : Int) < (t[i].toNat : Int) := by omega
        have hwr := wrap8 ((t[i].toNat : Int) - 48) (by omega)
        generalize hx : t[i].toNat = x at *
        generalize hdv : dv t i = D at *
        go_wp2
        go_roundg (gk - 1)
        case measure => omega
        case rel => exact ⟨i + 1, by omega, by go_num, by rw [← HC.out], HD2, rfl⟩
      · have HX := hid (HN.out (dg_no hlt hd))
        have HX2 : Hid (cntI 3 t = -1) := hid (by unfold cntI; rw [HX.out]; rfl)
        by_cases hd1 : (t[i].toNat : Int) < 48
        · go_wp2
          go_ret
          refine ⟨?_, T0.out⟩
          rw [HX2.out]
          rfl
        · have hd2I : (57 : Int) < (t[i].toNat : Int) := by omega
          go_wp2
          go_ret
          refine ⟨?_, T0.out⟩
          rw [HX2.out]
          rfl
    · have hltI : ¬ (i : Int) < (t.size : Int) := by omega
      obtain rfl : i = t.size := by omega
      have HX := hid (HY.out (dg_yes HD.out))
      have HX2 : Hid (cntI 3 t = (dv t t.size : Int)) := hid (by unfold cntI; rw [HX.out]; rfl)
      go_wp2
      go_ret
      refine ⟨?_, T0.out⟩
      rw [HX2.out]
      rfl
/-- The document's count, of what a text tells. -/
theorem count_any (k : Int) (t : ByteArray) (a2 a3 : Option Addr) (n2 c2 n3 c3 : Nat) (w : World) (hn : k = 3 → NumT t) :
    Calls Tryd.prog 12 #[.agg #[.int .i64 k, .string t, .slice a2 n2 c2, .slice a3 n3 c3]] w fun e w' => e = .returned (.int .i64 (cntI k t)) ∧ Touch (fun _ => False) w w' := by
  by_cases h : k = 3 ∧ t.size ≤ 18
  · obtain ⟨rfl, h2⟩ := h
    by_cases h1 : 1 < t.size
    · by_cases h0 : t[0]'(by omega) = 48
      · have hb : cntI 3 t = -1 := by unfold cntI; rw [num_dig (num_lead (hn rfl) h1 h0)]; rfl
        rw [hb]
        exact count_lead t a2 a3 n2 c2 n3 c3 w h2 h1 h0
      · exact count_two t a2 a3 n2 c2 n3 c3 w h2 h1 h0
    · exact count_one t a2 a3 n2 c2 n3 c3 w h2 h1
  · have hb : numB k t = false := by
      by_cases h3 : k = 3
      · exact num_long (fun h2 => h ⟨h3, h2⟩)
      · exact num_kind h3
    have hc : cntI k t = -1 := by unfold cntI; rw [hb]; rfl
    rw [hc]
    exact count_no k t a2 a3 n2 c2 n3 c3 w (by omega)
end Go.Proofs.YtjpmjcadnnglnaaDoor

/- The document's Read of an object: where it is none; no condition. -/
namespace Go.Proofs.YtjpmjcadnnglnaaDoor
open Go.RowKit
open Go.Lib

theorem DL.len {w : World} {a : Option Addr} {n c : Nat} {ds : List Cel} (h : DL w (.slice a n c) ds) : n = ds.length := by
  obtain ⟨_, _, hh⟩ := own_shape h
  cases hh
  rfl
theorem IL.len {w : World} {a : Option Addr} {n c : Nat} {ps : List Nat} (h : IL w (.slice a n c) ps) : n = ps.length := by
  obtain ⟨_, _, hh⟩ := own_shape h
  cases hh
  rfl
theorem DL.at {w : World} {a : Option Addr} {n cp : Nat} {cs : List Cel} (h : DL w (.slice a n cp) cs) (i : Nat) (c : Cel) (hi : cs[i]? = some c) : ∃ g, a = some ⟨g, 0, none⟩ ∧ w.cell? ⟨g, i * 4, none⟩ = some (.int .i64 c.k) ∧ w.cell? ⟨g, i * 4 + 1, none⟩ = some (.string c.t) ∧ w.cell? ⟨g, i * 4 + 2, none⟩ = some c.v2 ∧ w.cell? ⟨g, i * 4 + 3, none⟩ = some c.v3 := by
  have hlt := (List.getElem?_eq_some_iff.1 hi).1
  rcases h.2 with ⟨_, h0⟩ | ⟨g, cap, cur, hv, hg, hh, rest⟩
  · omega
  · cases hv
    refine ⟨g, rfl, ?_, ?_, ?_, ?_⟩
    all_goals
      have h' := h
      unfold DL at h'
    · rw [show i * 4 = i * 4 + 0 from rfl, h'.cellAt (i * 4 + 0) (by omega), cel_get cs i 0 c hi (by decide)]
      rfl
    · rw [h'.cellAt (i * 4 + 1) (by omega), cel_get cs i 1 c hi (by decide)]
      rfl
    · rw [h'.cellAt (i * 4 + 2) (by omega), cel_get cs i 2 c hi (by decide)]
      rfl
    · rw [h'.cellAt (i * 4 + 3) (by omega), cel_get cs i 3 c hi (by decide)]
      rfl
theorem IL.at {w : World} {a : Option Addr} {n c : Nat} {ps : List Nat} (h : IL w (.slice a n c) ps) (i q : Nat) (hi : ps[i]? = some q) : ∃ g, a = some ⟨g, 0, none⟩ ∧ w.cell? ⟨g, i, none⟩ = some (.int .i64 (q : Nat)) := by
  have hlt := (List.getElem?_eq_some_iff.1 hi).1
  rcases h.2 with ⟨_, h0⟩ | ⟨g, cap, cur, hv, hg, hh, rest⟩
  · omega
  · cases hv
    refine ⟨g, rfl, ?_⟩
    have h' := h
    unfold IL at h'
    rw [h'.cellAt i (by omega), List.getElem?_map, hi]
    rfl
theorem DT.open {w : World} {B : Nat → Prop} {ds : List Cel} {p : Nat} {k : Int} {t : ByteArray} {ks : List ByteArray} {kids : List JV} (h : DT w B ds p (.node k t ks kids)) : ∃ a2 n2 c2 a3 n3 c3 ps, ds[p]? = some ⟨k, t, .slice a2 n2 c2, .slice a3 n3 c3⟩ ∧ SL w (.slice a2 n2 c2) ks ∧ IL w (.slice a3 n3 c3) ps ∧ ps.length = kids.length ∧ ∀ (i q : Nat) (x : JV), ps[i]? = some q → kids[i]? = some x → DT w B ds q x := by
  cases h with
  | mk p k t v2 v3 ks ps kids hp h2 b2 h3 b3 hl hk =>
    obtain ⟨a2, c2, hv2⟩ := own_shape h2
    obtain ⟨a3, c3, hv3⟩ := own_shape h3
    subst hv2
    subst hv3
    exact ⟨_, _, _, _, _, _, ps, hp, h2, h3, hl, hk⟩
set_option maxRecDepth 100000 in
set_option maxHeartbeats 4000000 in
theorem dread_err (s : ByteArray) (w : World) (ec ek : Nat) (hP : parE s = .error (ec, ek)) :
    Calls Tryd.prog 6 #[.string s] w fun e w' => RdP 30 w none e w' := by
  have KP := hid (rparse_any s w)
  have hec : ec ≠ 0 := err_par hP
  rw [hP] at KP
  unfold RParP at KP
  have hbe : ((ec : Int) != 0) = true := by simp; omega
  clear hP
  go_enter Tryd.func6, Tryd.ntmps6
  go_wp2_with fail
  refine KP.out.mono ?_
  rintro e w2 ⟨rfl, t2⟩
  have T2 := hid t2
  clear t2 KP
  go_upto_region 2 with fail
  have TA := (Touch.refl (fun _ => False) w2).alloc (.cells #[.slice none 0 0, .int .i64 0, .int .i64 (ec : Nat), .int .i64 (ek : Nat)] 49)
  have BD := hid (jfour_new (w := w2) (.slice none 0 0) (.int .i64 0) (.int .i64 (ec : Nat)) (.int .i64 (ek : Nat)) 49)
  have T3 := hid (T2.out.trans TA (fun _ _ e => e))
  clear TA T2
  generalize w2.alloc (.cells #[.slice none 0 0, .int .i64 0, .int .i64 (ec : Nat), .int .i64 (ek : Nat)] 49) = w3 at *
  generalize w2.heap.size = p7 at *
  obtain ⟨⟨r0, r1, r2, r3⟩, _⟩ := cells4 BD.out
  clear BD
  go_wp2
  refine bodyPost_ret (results_tmp5 rfl _ _ _) rfl ?_
  exact rd_none rfl rfl T3.out
set_option maxRecDepth 100000 in
set_option maxHeartbeats 8000000 in
theorem dread_k (s : ByteArray) (w : World) (k : Int) (t : ByteArray) (ks : List ByteArray) (kids : List JV) (hP : parE s = .ok (.node k t ks kids)) (hk6 : k ≠ 6) :
    Calls Tryd.prog 6 #[.string s] w fun e w' => RdP 30 w none e w' := by
  have hb6 : (k != 6) = true := by simp; exact hk6
  clear hk6
  have KP := hid (rparse_any s w)
  rw [hP] at KP
  unfold RParP at KP
  clear hP
  go_enter Tryd.func6, Tryd.ntmps6
  go_wp2_with fail
  refine KP.out.mono ?_
  rintro e w2 ⟨av, nv, cv, r, ds, B, rfl, hdl, hdt, t2⟩
  have T2 := hid t2
  have D2 := hid hdl
  have E2 := hid hdt
  clear t2 KP hdl hdt
  go_upto_region 2 with fail
  have TA := (Touch.refl (fun _ => False) w2).alloc (.cells #[.slice av nv cv, .int .i64 (r : Nat), .int .i64 0, .int .i64 0] 49)
  have BD := hid (jfour_new (w := w2) (.slice av nv cv) (.int .i64 (r : Nat)) (.int .i64 0) (.int .i64 0) 49)
  have T3 := hid (T2.out.trans TA (fun _ _ e => e))
  have D3 := hid (show DL _ (.slice av nv cv) ds from rowKept D2.out TA (fun _ _ e => e))
  have E3 := hid (E2.out.kept TA (fun _ _ e => e))
  clear TA T2 D2 E2
  generalize w2.alloc (.cells #[.slice av nv cv, .int .i64 (r : Nat), .int .i64 0, .int .i64 0] 49) = w3 at *
  generalize w2.heap.size = p7 at *
  obtain ⟨a2, n2, c2, a3, n3, c3, ps, hp, h2, h3, hl, hk⟩ := E3.out.open
  have hnv := D3.out.len
  have hmv : nv ≤ 9223372036854775807 := by rw [hnv]; exact own_max D3.out
  have hr : r < nv := by rw [hnv]; exact (List.getElem?_eq_some_iff.1 hp).1
  have hrI : (r : Int) < (nv : Int) := by omega
  obtain ⟨gv, rfl, v0, v1, v2, v3⟩ := D3.out.at r _ hp
  dsimp only at v0 v1 v2 v3
  have S2 := hid h2
  have S3 := hid h3
  have HL := hid hl
  have HK := hid hk
  have HNV := hid hnv
  clear hp h2 h3 hl hk hnv E3
  obtain ⟨⟨q0, q1, q2, q3⟩, _⟩ := cells4 BD.out
  go_upto_region 5 with fail
  have TA := (Touch.refl (fun _ => False) w3).alloc (.cells #[.int .i64 k, .string t, .slice a2 n2 c2, .slice a3 n3 c3] 53)
  have BX := hid (jfour_new (w := w3) (.int .i64 k) (.string t) (.slice a2 n2 c2) (.slice a3 n3 c3) 53)
  have T4 := hid (T3.out.trans TA (fun _ _ e => e))
  have D4 := hid (show DL _ (.slice (some ⟨gv, 0, none⟩) nv cv) ds from rowKept D3.out TA (fun _ _ e => e))
  have S4 := hid (show SL _ (.slice a2 n2 c2) ks from rowKept S2.out TA (fun _ _ e => e))
  have I4 := hid (show IL _ (.slice a3 n3 c3) ps from rowKept S3.out TA (fun _ _ e => e))
  have K4' := hid (fun i q x h1 h2 => (HK.out i q x h1 h2).kept TA (fun _ _ e => e))
  have BD4 := hid ((TA.block p7 (lt_of_block BD.out) id).trans BD.out)
  clear TA T3 D3 S2 S3 HK BD q0 q1 q2 q3 v0 v1 v2 v3
  generalize w3.alloc (.cells #[.int .i64 k, .string t, .slice a2 n2 c2, .slice a3 n3 c3] 53) = w4 at *
  generalize w3.heap.size = p8 at *
  obtain ⟨⟨q0, q1, q2, q3⟩, _⟩ := cells4 BX.out
  go_wp2
  refine bodyPost_ret (results_tmp5 rfl _ _ _) rfl ?_
  exact rd_none rfl rfl T4.out
set_option maxRecDepth 100000 in
set_option maxHeartbeats 8000000 in
theorem dread_n (s : ByteArray) (w : World) (t : ByteArray) (ks : List ByteArray) (kids : List JV) (hP : parE s = .ok (.node 6 t ks kids)) (hks : ks.length ≠ 4) :
    Calls Tryd.prog 6 #[.string s] w fun e w' => RdP 30 w none e w' := by
  have KP := hid (rparse_any s w)
  rw [hP] at KP
  unfold RParP at KP
  clear hP
  go_enter Tryd.func6, Tryd.ntmps6
  go_wp2_with fail
  refine KP.out.mono ?_
  rintro e w2 ⟨av, nv, cv, r, ds, B, rfl, hdl, hdt, t2⟩
  have T2 := hid t2
  have D2 := hid hdl
  have E2 := hid hdt
  clear t2 KP hdl hdt
  go_upto_region 2 with fail
  have TA := (Touch.refl (fun _ => False) w2).alloc (.cells #[.slice av nv cv, .int .i64 (r : Nat), .int .i64 0, .int .i64 0] 49)
  have BD := hid (jfour_new (w := w2) (.slice av nv cv) (.int .i64 (r : Nat)) (.int .i64 0) (.int .i64 0) 49)
  have T3 := hid (T2.out.trans TA (fun _ _ e => e))
  have D3 := hid (show DL _ (.slice av nv cv) ds from rowKept D2.out TA (fun _ _ e => e))
  have E3 := hid (E2.out.kept TA (fun _ _ e => e))
  clear TA T2 D2 E2
  generalize w2.alloc (.cells #[.slice av nv cv, .int .i64 (r : Nat), .int .i64 0, .int .i64 0] 49) = w3 at *
  generalize w2.heap.size = p7 at *
  obtain ⟨a2, n2, c2, a3, n3, c3, ps, hp, h2, h3, hl, hk⟩ := E3.out.open
  have hnv := D3.out.len
  have hmv : nv ≤ 9223372036854775807 := by rw [hnv]; exact own_max D3.out
  have hr : r < nv := by rw [hnv]; exact (List.getElem?_eq_some_iff.1 hp).1
  have hrI : (r : Int) < (nv : Int) := by omega
  obtain ⟨gv, rfl, v0, v1, v2, v3⟩ := D3.out.at r _ hp
  dsimp only at v0 v1 v2 v3
  have S2 := hid h2
  have S3 := hid h3
  have HL := hid hl
  have HK := hid hk
  have HNV := hid hnv
  clear hp h2 h3 hl hk hnv E3
  obtain ⟨⟨q0, q1, q2, q3⟩, _⟩ := cells4 BD.out
  go_upto_region 5 with fail
  have TA := (Touch.refl (fun _ => False) w3).alloc (.cells #[.int .i64 6, .string t, .slice a2 n2 c2, .slice a3 n3 c3] 53)
  have BX := hid (jfour_new (w := w3) (.int .i64 6) (.string t) (.slice a2 n2 c2) (.slice a3 n3 c3) 53)
  have T4 := hid (T3.out.trans TA (fun _ _ e => e))
  have D4 := hid (show DL _ (.slice (some ⟨gv, 0, none⟩) nv cv) ds from rowKept D3.out TA (fun _ _ e => e))
  have S4 := hid (show SL _ (.slice a2 n2 c2) ks from rowKept S2.out TA (fun _ _ e => e))
  have I4 := hid (show IL _ (.slice a3 n3 c3) ps from rowKept S3.out TA (fun _ _ e => e))
  have K4' := hid (fun i q x h1 h2 => (HK.out i q x h1 h2).kept TA (fun _ _ e => e))
  have BD4 := hid ((TA.block p7 (lt_of_block BD.out) id).trans BD.out)
  clear TA T3 D3 S2 S3 HK BD q0 q1 q2 q3 v0 v1 v2 v3
  generalize w3.alloc (.cells #[.int .i64 6, .string t, .slice a2 n2 c2, .slice a3 n3 c3] 53) = w4 at *
  generalize w3.heap.size = p8 at *
  obtain ⟨⟨q0, q1, q2, q3⟩, _⟩ := cells4 BX.out
  have hn2 : ((n2 : Int) != 4) = true := by
    have := S4.out.len2
    simp
    omega
  go_wp2
  refine bodyPost_ret (results_tmp5 rfl _ _ _) rfl ?_
  exact rd_none rfl rfl T4.out
set_option maxRecDepth 100000 in
set_option maxHeartbeats 8000000 in
theorem dread_0 (s : ByteArray) (w : World) (t : ByteArray) (x0 x1 x2 x3 : ByteArray) (kids : List JV) (hP : parE s = .ok (.node 6 t [x0, x1, x2, x3] kids)) (hne : x0 ≠ ⟨#[110, 97, 109, 101]⟩) :
    Calls Tryd.prog 6 #[.string s] w fun e w' => RdP 30 w none e w' := by
  have hbx : (x0.toList == [110, 97, 109, 101]) = false := by
    have := toList_ne hne
    rw [Lib.toList_data ⟨#[110, 97, 109, 101]⟩] at this
    exact this
  clear hne
  have KP := hid (rparse_any s w)
  rw [hP] at KP
  unfold RParP at KP
  clear hP
  go_enter Tryd.func6, Tryd.ntmps6
  go_wp2_with fail
  refine KP.out.mono ?_
  rintro e w2 ⟨av, nv, cv, r, ds, B, rfl, hdl, hdt, t2⟩
  have T2 := hid t2
  have D2 := hid hdl
  have E2 := hid hdt
  clear t2 KP hdl hdt
  go_upto_region 2 with fail
  have TA := (Touch.refl (fun _ => False) w2).alloc (.cells #[.slice av nv cv, .int .i64 (r : Nat), .int .i64 0, .int .i64 0] 49)
  have BD := hid (jfour_new (w := w2) (.slice av nv cv) (.int .i64 (r : Nat)) (.int .i64 0) (.int .i64 0) 49)
  have T3 := hid (T2.out.trans TA (fun _ _ e => e))
  have D3 := hid (show DL _ (.slice av nv cv) ds from rowKept D2.out TA (fun _ _ e => e))
  have E3 := hid (E2.out.kept TA (fun _ _ e => e))
  clear TA T2 D2 E2
  generalize w2.alloc (.cells #[.slice av nv cv, .int .i64 (r : Nat), .int .i64 0, .int .i64 0] 49) = w3 at *
  generalize w2.heap.size = p7 at *
  obtain ⟨a2, n2, c2, a3, n3, c3, ps, hp, h2, h3, hl, hk⟩ := E3.out.open
  have hnv := D3.out.len
  have hmv : nv ≤ 9223372036854775807 := by rw [hnv]; exact own_max D3.out
  have hr : r < nv := by rw [hnv]; exact (List.getElem?_eq_some_iff.1 hp).1
  have hrI : (r : Int) < (nv : Int) := by omega
  obtain ⟨gv, rfl, v0, v1, v2, v3⟩ := D3.out.at r _ hp
  dsimp only at v0 v1 v2 v3
  have S2 := hid h2
  have S3 := hid h3
  have HL := hid hl
  have HK := hid hk
  have HNV := hid hnv
  clear hp h2 h3 hl hk hnv E3
  obtain ⟨⟨q0, q1, q2, q3⟩, _⟩ := cells4 BD.out
  go_upto_region 5 with fail
  have TA := (Touch.refl (fun _ => False) w3).alloc (.cells #[.int .i64 6, .string t, .slice a2 n2 c2, .slice a3 n3 c3] 53)
  have BX := hid (jfour_new (w := w3) (.int .i64 6) (.string t) (.slice a2 n2 c2) (.slice a3 n3 c3) 53)
  have T4 := hid (T3.out.trans TA (fun _ _ e => e))
  have D4 := hid (show DL _ (.slice (some ⟨gv, 0, none⟩) nv cv) ds from rowKept D3.out TA (fun _ _ e => e))
  have S4 := hid (show SL _ (.slice a2 n2 c2) [x0, x1, x2, x3] from rowKept S2.out TA (fun _ _ e => e))
  have I4 := hid (show IL _ (.slice a3 n3 c3) ps from rowKept S3.out TA (fun _ _ e => e))
  have K4' := hid (fun i q x h1 h2 => (HK.out i q x h1 h2).kept TA (fun _ _ e => e))
  have BD4 := hid ((TA.block p7 (lt_of_block BD.out) id).trans BD.out)
  clear TA T3 D3 S2 S3 HK BD q0 q1 q2 q3 v0 v1 v2 v3
  generalize w3.alloc (.cells #[.int .i64 6, .string t, .slice a2 n2 c2, .slice a3 n3 c3] 53) = w4 at *
  generalize w3.heap.size = p8 at *
  obtain ⟨⟨q0, q1, q2, q3⟩, _⟩ := cells4 BX.out
  have hn2 : n2 = 4 := S4.out.len2
  subst hn2
  obtain ⟨gk, hgk, k0⟩ := SL.at2 S4.out 0 (by simp)
  cases hgk
  obtain ⟨gk', hgk, k1⟩ := SL.at2 S4.out 1 (by simp)
  cases hgk
  obtain ⟨gk', hgk, k2⟩ := SL.at2 S4.out 2 (by simp)
  cases hgk
  obtain ⟨gk', hgk, k3⟩ := SL.at2 S4.out 3 (by simp)
  cases hgk
  go_wp2
  refine bodyPost_ret (results_tmp5 rfl _ _ _) rfl ?_
  exact rd_none rfl rfl T4.out
set_option maxRecDepth 100000 in
set_option maxHeartbeats 8000000 in
theorem dread_1 (s : ByteArray) (w : World) (t : ByteArray) (x1 x2 x3 : ByteArray) (kids : List JV) (hP : parE s = .ok (.node 6 t [⟨#[110, 97, 109, 101]⟩, x1, x2, x3] kids)) (hne : x1 ≠ ⟨#[108, 105, 110, 101]⟩) :
    Calls Tryd.prog 6 #[.string s] w fun e w' => RdP 30 w none e w' := by
  have hbx : (x1.toList == [108, 105, 110, 101]) = false := by
    have := toList_ne hne
    rw [Lib.toList_data ⟨#[108, 105, 110, 101]⟩] at this
    exact this
  clear hne
  have KP := hid (rparse_any s w)
  rw [hP] at KP
  unfold RParP at KP
  clear hP
  go_enter Tryd.func6, Tryd.ntmps6
  go_wp2_with fail
  refine KP.out.mono ?_
  rintro e w2 ⟨av, nv, cv, r, ds, B, rfl, hdl, hdt, t2⟩
  have T2 := hid t2
  have D2 := hid hdl
  have E2 := hid hdt
  clear t2 KP hdl hdt
  go_upto_region 2 with fail
  have TA := (Touch.refl (fun _ => False) w2).alloc (.cells #[.slice av nv cv, .int .i64 (r : Nat), .int .i64 0, .int .i64 0] 49)
  have BD := hid (jfour_new (w := w2) (.slice av nv cv) (.int .i64 (r : Nat)) (.int .i64 0) (.int .i64 0) 49)
  have T3 := hid (T2.out.trans TA (fun _ _ e => e))
  have D3 := hid (show DL _ (.slice av nv cv) ds from rowKept D2.out TA (fun _ _ e => e))
  have E3 := hid (E2.out.kept TA (fun _ _ e => e))
  clear TA T2 D2 E2
  generalize w2.alloc (.cells #[.slice av nv cv, .int .i64 (r : Nat), .int .i64 0, .int .i64 0] 49) = w3 at *
  generalize w2.heap.size = p7 at *
  obtain ⟨a2, n2, c2, a3, n3, c3, ps, hp, h2, h3, hl, hk⟩ := E3.out.open
  have hnv := D3.out.len
  have hmv : nv ≤ 9223372036854775807 := by rw [hnv]; exact own_max D3.out
  have hr : r < nv := by rw [hnv]; exact (List.getElem?_eq_some_iff.1 hp).1
  have hrI : (r : Int) < (nv : Int) := by omega
  obtain ⟨gv, rfl, v0, v1, v2, v3⟩ := D3.out.at r _ hp
  dsimp only at v0 v1 v2 v3
  have S2 := hid h2
  have S3 := hid h3
  have HL := hid hl
  have HK := hid hk
  have HNV := hid hnv
  clear hp h2 h3 hl hk hnv E3
  obtain ⟨⟨q0, q1, q2, q3⟩, _⟩ := cells4 BD.out
  go_upto_region 5 with fail
  have TA := (Touch.refl (fun _ => False) w3).alloc (.cells #[.int .i64 6, .string t, .slice a2 n2 c2, .slice a3 n3 c3] 53)
  have BX := hid (jfour_new (w := w3) (.int .i64 6) (.string t) (.slice a2 n2 c2) (.slice a3 n3 c3) 53)
  have T4 := hid (T3.out.trans TA (fun _ _ e => e))
  have D4 := hid (show DL _ (.slice (some ⟨gv, 0, none⟩) nv cv) ds from rowKept D3.out TA (fun _ _ e => e))
  have S4 := hid (show SL _ (.slice a2 n2 c2) [⟨#[110, 97, 109, 101]⟩, x1, x2, x3] from rowKept S2.out TA (fun _ _ e => e))
  have I4 := hid (show IL _ (.slice a3 n3 c3) ps from rowKept S3.out TA (fun _ _ e => e))
  have K4' := hid (fun i q x h1 h2 => (HK.out i q x h1 h2).kept TA (fun _ _ e => e))
  have BD4 := hid ((TA.block p7 (lt_of_block BD.out) id).trans BD.out)
  clear TA T3 D3 S2 S3 HK BD q0 q1 q2 q3 v0 v1 v2 v3
  generalize w3.alloc (.cells #[.int .i64 6, .string t, .slice a2 n2 c2, .slice a3 n3 c3] 53) = w4 at *
  generalize w3.heap.size = p8 at *
  obtain ⟨⟨q0, q1, q2, q3⟩, _⟩ := cells4 BX.out
  have hn2 : n2 = 4 := S4.out.len2
  subst hn2
  obtain ⟨gk, hgk, k0⟩ := SL.at2 S4.out 0 (by simp)
  cases hgk
  obtain ⟨gk', hgk, k1⟩ := SL.at2 S4.out 1 (by simp)
  cases hgk
  obtain ⟨gk', hgk, k2⟩ := SL.at2 S4.out 2 (by simp)
  cases hgk
  obtain ⟨gk', hgk, k3⟩ := SL.at2 S4.out 3 (by simp)
  cases hgk
  go_wp2
  refine bodyPost_ret (results_tmp5 rfl _ _ _) rfl ?_
  exact rd_none rfl rfl T4.out
set_option maxRecDepth 100000 in
set_option maxHeartbeats 8000000 in
theorem dread_2 (s : ByteArray) (w : World) (t : ByteArray) (x2 x3 : ByteArray) (kids : List JV) (hP : parE s = .ok (.node 6 t [⟨#[110, 97, 109, 101]⟩, ⟨#[108, 105, 110, 101]⟩, x2, x3] kids)) (hne : x2 ≠ ⟨#[116, 101, 120, 116]⟩) :
    Calls Tryd.prog 6 #[.string s] w fun e w' => RdP 30 w none e w' := by
  have hbx : (x2.toList == [116, 101, 120, 116]) = false := by
    have := toList_ne hne
    rw [Lib.toList_data ⟨#[116, 101, 120, 116]⟩] at this
    exact this
  clear hne
  have KP := hid (rparse_any s w)
  rw [hP] at KP
  unfold RParP at KP
  clear hP
  go_enter Tryd.func6, Tryd.ntmps6
  go_wp2_with fail
  refine KP.out.mono ?_
  rintro e w2 ⟨av, nv, cv, r, ds, B, rfl, hdl, hdt, t2⟩
  have T2 := hid t2
  have D2 := hid hdl
  have E2 := hid hdt
  clear t2 KP hdl hdt
  go_upto_region 2 with fail
  have TA := (Touch.refl (fun _ => False) w2).alloc (.cells #[.slice av nv cv, .int .i64 (r : Nat), .int .i64 0, .int .i64 0] 49)
  have BD := hid (jfour_new (w := w2) (.slice av nv cv) (.int .i64 (r : Nat)) (.int .i64 0) (.int .i64 0) 49)
  have T3 := hid (T2.out.trans TA (fun _ _ e => e))
  have D3 := hid (show DL _ (.slice av nv cv) ds from rowKept D2.out TA (fun _ _ e => e))
  have E3 := hid (E2.out.kept TA (fun _ _ e => e))
  clear TA T2 D2 E2
  generalize w2.alloc (.cells #[.slice av nv cv, .int .i64 (r : Nat), .int .i64 0, .int .i64 0] 49) = w3 at *
  generalize w2.heap.size = p7 at *
  obtain ⟨a2, n2, c2, a3, n3, c3, ps, hp, h2, h3, hl, hk⟩ := E3.out.open
  have hnv := D3.out.len
  have hmv : nv ≤ 9223372036854775807 := by rw [hnv]; exact own_max D3.out
  have hr : r < nv := by rw [hnv]; exact (List.getElem?_eq_some_iff.1 hp).1
  have hrI : (r : Int) < (nv : Int) := by omega
  obtain ⟨gv, rfl, v0, v1, v2, v3⟩ := D3.out.at r _ hp
  dsimp only at v0 v1 v2 v3
  have S2 := hid h2
  have S3 := hid h3
  have HL := hid hl
  have HK := hid hk
  have HNV := hid hnv
  clear hp h2 h3 hl hk hnv E3
  obtain ⟨⟨q0, q1, q2, q3⟩, _⟩ := cells4 BD.out
  go_upto_region 5 with fail
  have TA := (Touch.refl (fun _ => False) w3).alloc (.cells #[.int .i64 6, .string t, .slice a2 n2 c2, .slice a3 n3 c3] 53)
  have BX := hid (jfour_new (w := w3) (.int .i64 6) (.string t) (.slice a2 n2 c2) (.slice a3 n3 c3) 53)
  have T4 := hid (T3.out.trans TA (fun _ _ e => e))
  have D4 := hid (show DL _ (.slice (some ⟨gv, 0, none⟩) nv cv) ds from rowKept D3.out TA (fun _ _ e => e))
  have S4 := hid (show SL _ (.slice a2 n2 c2) [⟨#[110, 97, 109, 101]⟩, ⟨#[108, 105, 110, 101]⟩, x2, x3] from rowKept S2.out TA (fun _ _ e => e))
  have I4 := hid (show IL _ (.slice a3 n3 c3) ps from rowKept S3.out TA (fun _ _ e => e))
  have K4' := hid (fun i q x h1 h2 => (HK.out i q x h1 h2).kept TA (fun _ _ e => e))
  have BD4 := hid ((TA.block p7 (lt_of_block BD.out) id).trans BD.out)
  clear TA T3 D3 S2 S3 HK BD q0 q1 q2 q3 v0 v1 v2 v3
  generalize w3.alloc (.cells #[.int .i64 6, .string t, .slice a2 n2 c2, .slice a3 n3 c3] 53) = w4 at *
  generalize w3.heap.size = p8 at *
  obtain ⟨⟨q0, q1, q2, q3⟩, _⟩ := cells4 BX.out
  have hn2 : n2 = 4 := S4.out.len2
  subst hn2
  obtain ⟨gk, hgk, k0⟩ := SL.at2 S4.out 0 (by simp)
  cases hgk
  obtain ⟨gk', hgk, k1⟩ := SL.at2 S4.out 1 (by simp)
  cases hgk
  obtain ⟨gk', hgk, k2⟩ := SL.at2 S4.out 2 (by simp)
  cases hgk
  obtain ⟨gk', hgk, k3⟩ := SL.at2 S4.out 3 (by simp)
  cases hgk
  go_wp2
  refine bodyPost_ret (results_tmp5 rfl _ _ _) rfl ?_
  exact rd_none rfl rfl T4.out
set_option maxRecDepth 100000 in
set_option maxHeartbeats 8000000 in
theorem dread_3 (s : ByteArray) (w : World) (t : ByteArray) (x3 : ByteArray) (kids : List JV) (hP : parE s = .ok (.node 6 t [⟨#[110, 97, 109, 101]⟩, ⟨#[108, 105, 110, 101]⟩, ⟨#[116, 101, 120, 116]⟩, x3] kids)) (hne : x3 ≠ ⟨#[115, 112, 97, 110, 115]⟩) :
    Calls Tryd.prog 6 #[.string s] w fun e w' => RdP 30 w none e w' := by
  have hbx : (x3.toList == [115, 112, 97, 110, 115]) = false := by
    have := toList_ne hne
    rw [Lib.toList_data ⟨#[115, 112, 97, 110, 115]⟩] at this
    exact this
  clear hne
  have KP := hid (rparse_any s w)
  rw [hP] at KP
  unfold RParP at KP
  clear hP
  go_enter Tryd.func6, Tryd.ntmps6
  go_wp2_with fail
  refine KP.out.mono ?_
  rintro e w2 ⟨av, nv, cv, r, ds, B, rfl, hdl, hdt, t2⟩
  have T2 := hid t2
  have D2 := hid hdl
  have E2 := hid hdt
  clear t2 KP hdl hdt
  go_upto_region 2 with fail
  have TA := (Touch.refl (fun _ => False) w2).alloc (.cells #[.slice av nv cv, .int .i64 (r : Nat), .int .i64 0, .int .i64 0] 49)
  have BD := hid (jfour_new (w := w2) (.slice av nv cv) (.int .i64 (r : Nat)) (.int .i64 0) (.int .i64 0) 49)
  have T3 := hid (T2.out.trans TA (fun _ _ e => e))
  have D3 := hid (show DL _ (.slice av nv cv) ds from rowKept D2.out TA (fun _ _ e => e))
  have E3 := hid (E2.out.kept TA (fun _ _ e => e))
  clear TA T2 D2 E2
  generalize w2.alloc (.cells #[.slice av nv cv, .int .i64 (r : Nat), .int .i64 0, .int .i64 0] 49) = w3 at *
  generalize w2.heap.size = p7 at *
  obtain ⟨a2, n2, c2, a3, n3, c3, ps, hp, h2, h3, hl, hk⟩ := E3.out.open
  have hnv := D3.out.len
  have hmv : nv ≤ 9223372036854775807 := by rw [hnv]; exact own_max D3.out
  have hr : r < nv := by rw [hnv]; exact (List.getElem?_eq_some_iff.1 hp).1
  have hrI : (r : Int) < (nv : Int) := by omega
  obtain ⟨gv, rfl, v0, v1, v2, v3⟩ := D3.out.at r _ hp
  dsimp only at v0 v1 v2 v3
  have S2 := hid h2
  have S3 := hid h3
  have HL := hid hl
  have HK := hid hk
  have HNV := hid hnv
  clear hp h2 h3 hl hk hnv E3
  obtain ⟨⟨q0, q1, q2, q3⟩, _⟩ := cells4 BD.out
  go_upto_region 5 with fail
  have TA := (Touch.refl (fun _ => False) w3).alloc (.cells #[.int .i64 6, .string t, .slice a2 n2 c2, .slice a3 n3 c3] 53)
  have BX := hid (jfour_new (w := w3) (.int .i64 6) (.string t) (.slice a2 n2 c2) (.slice a3 n3 c3) 53)
  have T4 := hid (T3.out.trans TA (fun _ _ e => e))
  have D4 := hid (show DL _ (.slice (some ⟨gv, 0, none⟩) nv cv) ds from rowKept D3.out TA (fun _ _ e => e))
  have S4 := hid (show SL _ (.slice a2 n2 c2) [⟨#[110, 97, 109, 101]⟩, ⟨#[108, 105, 110, 101]⟩, ⟨#[116, 101, 120, 116]⟩, x3] from rowKept S2.out TA (fun _ _ e => e))
  have I4 := hid (show IL _ (.slice a3 n3 c3) ps from rowKept S3.out TA (fun _ _ e => e))
  have K4' := hid (fun i q x h1 h2 => (HK.out i q x h1 h2).kept TA (fun _ _ e => e))
  have BD4 := hid ((TA.block p7 (lt_of_block BD.out) id).trans BD.out)
  clear TA T3 D3 S2 S3 HK BD q0 q1 q2 q3 v0 v1 v2 v3
  generalize w3.alloc (.cells #[.int .i64 6, .string t, .slice a2 n2 c2, .slice a3 n3 c3] 53) = w4 at *
  generalize w3.heap.size = p8 at *
  obtain ⟨⟨q0, q1, q2, q3⟩, _⟩ := cells4 BX.out
  have hn2 : n2 = 4 := S4.out.len2
  subst hn2
  obtain ⟨gk, hgk, k0⟩ := SL.at2 S4.out 0 (by simp)
  cases hgk
  obtain ⟨gk', hgk, k1⟩ := SL.at2 S4.out 1 (by simp)
  cases hgk
  obtain ⟨gk', hgk, k2⟩ := SL.at2 S4.out 2 (by simp)
  cases hgk
  obtain ⟨gk', hgk, k3⟩ := SL.at2 S4.out 3 (by simp)
  cases hgk
  go_wp2
  refine bodyPost_ret (results_tmp5 rfl _ _ _) rfl ?_
  exact rd_none rfl rfl T4.out
end Go.Proofs.YtjpmjcadnnglnaaDoor
