/- The document's Read of an object: where it is one; no condition. -/
import Derived.Test.YtjpmjcadnnglnaaDoorRYg
import Derived.Deep.RegionHeld3
import Derived.BigRegion
import Derived.Deep.QuietTactic
namespace Go.Proofs.YtjpmjcadnnglnaaDoor
open Go.RowKit
open Go.Lib
open Go.BigFrame

theorem cnt_eq (k : Int) (t : ByteArray) : cntI k t = if numB k t = true then (numN k t : Int) else -1 := by
  unfold cntI numN
  by_cases h : numB k t = true
  · rw [if_pos h, if_pos h, if_pos h]
  · rw [if_neg h, if_neg h]
/-- A region that draws its order, all of whose operations leave a class of worlds and yield one value in each: one walk. -/
theorem wp_region_class {P : Program} {id : Nat} {Q : Exit → Act → World → Prop} {a : Act} {w : World} {l : List Oper} (C : World → Prop) (hm : P.follows .mixedOrders = true) (hB : Region.lexB .any l.toArray = true) (hC : C w.drew)
    (h : wpQuiet P l.toArray C (fun a' => ∀ w', C w' → Q .normal a' w') l a) : (Code.region id l.toArray true).wp P Q a w :=
  wp_region_quiet (C := C) hm hB hC (by simpa using h)
theorem one_drew (w : World) (a : Array Value) (t : TypeId) : (w.alloc (.cells a t)).drew.heap[w.heap.size]? = some (.cells a t (0, 0)) ∧ Touch (fun _ => False) w (w.alloc (.cells a t)).drew :=
  ⟨block_new w a t, ((Touch.refl _ w).alloc _).drew⟩
theorem four_drew (w : World) (a b c d : Array Value) (t : TypeId) : ((((w.alloc (.cells a t)).alloc (.cells b t)).alloc (.cells c t)).alloc (.cells d t)).drew.heap[w.heap.size]? = some (.cells a t (0, 0)) ∧ ((((w.alloc (.cells a t)).alloc (.cells b t)).alloc (.cells c t)).alloc (.cells d t)).drew.heap[w.heap.size + 1]? = some (.cells b t (0, 0)) ∧ ((((w.alloc (.cells a t)).alloc (.cells b t)).alloc (.cells c t)).alloc (.cells d t)).drew.heap[w.heap.size + 1 + 1]? = some (.cells c t (0, 0)) ∧ ((((w.alloc (.cells a t)).alloc (.cells b t)).alloc (.cells c t)).alloc (.cells d t)).drew.heap[w.heap.size + 1 + 1 + 1]? = some (.cells d t (0, 0)) ∧ Touch (fun _ => False) w ((((w.alloc (.cells a t)).alloc (.cells b t)).alloc (.cells c t)).alloc (.cells d t)).drew := by
  have s1 : (w.alloc (.cells a t)).heap.size = w.heap.size + 1 := size_alloc1 _ _
  have s2 : ((w.alloc (.cells a t)).alloc (.cells b t)).heap.size = w.heap.size + 1 + 1 := (size_alloc1 _ _).trans (by rw [s1])
  have s3 : (((w.alloc (.cells a t)).alloc (.cells b t)).alloc (.cells c t)).heap.size = w.heap.size + 1 + 1 + 1 := (size_alloc1 _ _).trans (by rw [s2])
  have h1 := block_new w a t
  have h2 := block_new (w.alloc (.cells a t)) b t
  have h3 := block_new ((w.alloc (.cells a t)).alloc (.cells b t)) c t
  have h4 := block_new (((w.alloc (.cells a t)).alloc (.cells b t)).alloc (.cells c t)) d t
  rw [s1] at h2
  rw [s2] at h3
  rw [s3] at h4
  have R := fun (w : World) => Touch.refl (fun _ => False) w
  exact ⟨((((((R _).alloc _).alloc _).alloc _).drew).block w.heap.size (by rw [s1]; omega) id).trans h1, (((((R _).alloc _).alloc _).drew).block (w.heap.size + 1) (by rw [s2]; omega) id).trans h2, ((((R _).alloc _).drew).block (w.heap.size + 1 + 1) (by rw [s3]; omega) id).trans h3, h4, (((((R _).alloc _).alloc _).alloc _).alloc _).drew⟩
set_option maxRecDepth 100000 in
set_option maxHeartbeats 16000000 in
theorem dread_yes (s : ByteArray) (w : World) (t : ByteArray) (ka kb kc kd : Int) (ta tb tc td : ByteArray) (sa sb sc sd : List ByteArray) (la lb lc ld : List JV)
    (hP : parE s = .ok (.node 6 t [⟨#[110, 97, 109, 101]⟩, ⟨#[108, 105, 110, 101]⟩, ⟨#[116, 101, 120, 116]⟩, ⟨#[115, 112, 97, 110, 115]⟩] [.node ka ta sa la, .node kb tb sb lb, .node kc tc sc lc, .node kd td sd ld])) (hnb : kb = 3 → NumT tb) (hnd : ∀ x ∈ ld, ∀ k t ks kids, x = .node k t ks kids → ∀ y ∈ kids, ∀ k t ks kids, y = JV.node k t ks kids → k = 3 → NumT t) (hld : ld.length ≤ 8000000) :
    Calls Tryd.prog 6 #[.string s] w fun e w' => RdP 30 w (objO [.node ka ta sa la, .node kb tb sb lb, .node kc tc sc lc, .node kd td sd ld]) e w' := by
  have HO := hid (obj_eq ka kb kc ta tb tc sa sb sc la lb lc (.node kd td sd ld))
  generalize hOO : objO [.node ka ta sa la, .node kb tb sb lb, .node kc tc sc lc, .node kd td sd ld] = OO at *
  clear hOO
  have KP := hid (rparse_any s w)
  rw [hP] at KP
  unfold RParP at KP
  clear hP
  go_enter Tryd.func6, Tryd.ntmps6
  go_wp2_with fail
  refine KP.out.mono ?_
  rintro e w2 ⟨av, nv, cv, r, ds, B, rfl, hdl, hdt, t2⟩
  have T2 := hid t2
  have D2 := hid hdl
  have E2 := hid hdt
  clear t2 KP hdl hdt
  go_upto_region 2 with fail
  have TA := (Touch.refl (fun _ => False) w2).alloc (.cells #[.slice av nv cv, .int .i64 (r : Nat), .int .i64 0, .int .i64 0] 49)
  have BD := hid (jfour_new (w := w2) (.slice av nv cv) (.int .i64 (r : Nat)) (.int .i64 0) (.int .i64 0) 49)
  have T3 := hid (T2.out.trans TA (fun _ _ e => e))
  have D3 := hid (show DL _ (.slice av nv cv) ds from rowKept D2.out TA (fun _ _ e => e))
  have E3 := hid (E2.out.kept TA (fun _ _ e => e))
  clear TA T2 D2 E2
  generalize w2.alloc (.cells #[.slice av nv cv, .int .i64 (r : Nat), .int .i64 0, .int .i64 0] 49) = w3 at *
  generalize w2.heap.size = p7 at *
  obtain ⟨a2, n2, c2, a3, n3, c3, ps, hp, h2, h3, hl, hk⟩ := E3.out.open
  have hnv := D3.out.len
  have hmv : nv ≤ 9223372036854775807 := by rw [hnv]; exact own_max D3.out
  have hr : r < nv := by rw [hnv]; exact (List.getElem?_eq_some_iff.1 hp).1
  have hrI : (r : Int) < (nv : Int) := by omega
  obtain ⟨gv, rfl, v0, v1, v2, v3⟩ := D3.out.at r _ hp
  dsimp only at v0 v1 v2 v3
  have S2 := hid h2
  have S3 := hid h3
  have HL := hid hl
  have HK := hid hk
  have HNV := hid hnv
  clear hp h2 h3 hl hk hnv E3
  obtain ⟨⟨q0, q1, q2, q3⟩, _⟩ := cells4 BD.out
  go_upto_region 5 with fail
  have TA := (Touch.refl (fun _ => False) w3).alloc (.cells #[.int .i64 6, .string t, .slice a2 n2 c2, .slice a3 n3 c3] 53)
  have BX := hid (jfour_new (w := w3) (.int .i64 6) (.string t) (.slice a2 n2 c2) (.slice a3 n3 c3) 53)
  have T4 := hid (T3.out.trans TA (fun _ _ e => e))
  have D4 := hid (show DL _ (.slice (some ⟨gv, 0, none⟩) nv cv) ds from rowKept D3.out TA (fun _ _ e => e))
  have S4 := hid (show SL _ (.slice a2 n2 c2) [⟨#[110, 97, 109, 101]⟩, ⟨#[108, 105, 110, 101]⟩, ⟨#[116, 101, 120, 116]⟩, ⟨#[115, 112, 97, 110, 115]⟩] from rowKept S2.out TA (fun _ _ e => e))
  have I4 := hid (show IL _ (.slice a3 n3 c3) ps from rowKept S3.out TA (fun _ _ e => e))
  have K4' := hid (fun i q x h1 h2 => (HK.out i q x h1 h2).kept TA (fun _ _ e => e))
  have BD4 := hid ((TA.block p7 (lt_of_block BD.out) id).trans BD.out)
  clear TA T3 D3 S2 S3 HK BD q0 q1 q2 q3 v0 v1 v2 v3
  generalize w3.alloc (.cells #[.int .i64 6, .string t, .slice a2 n2 c2, .slice a3 n3 c3] 53) = w4 at *
  generalize w3.heap.size = p8 at *
  obtain ⟨⟨q0, q1, q2, q3⟩, _⟩ := cells4 BX.out
  have hn2 : n2 = 4 := S4.out.len2
  subst hn2
  obtain ⟨gk, hgk, k0⟩ := SL.at2 S4.out 0 (by simp)
  cases hgk
  obtain ⟨gk', hgk, k1⟩ := SL.at2 S4.out 1 (by simp)
  cases hgk
  obtain ⟨gk', hgk, k2⟩ := SL.at2 S4.out 2 (by simp)
  cases hgk
  obtain ⟨gk', hgk, k3⟩ := SL.at2 S4.out 3 (by simp)
  cases hgk
  have hn3 : n3 = 4 := I4.out.len.trans HL.out
  subst hn3
  obtain ⟨pa, pb, pc, pd, hps⟩ : ∃ pa pb pc pd, ps = [pa, pb, pc, pd] := by
    match ps, HL.out with
    | [pa, pb, pc, pd], _ => exact ⟨pa, pb, pc, pd, rfl⟩
  subst hps
  obtain ⟨gi, hgi, i0⟩ := I4.out.at 0 pa rfl
  cases hgi
  obtain ⟨gi', hgi, i1⟩ := I4.out.at 1 pb rfl
  cases hgi
  obtain ⟨gi', hgi, i2⟩ := I4.out.at 2 pc rfl
  cases hgi
  obtain ⟨gi', hgi, i3⟩ := I4.out.at 3 pd rfl
  cases hgi
  have Ea := K4'.out 0 pa _ rfl rfl
  obtain ⟨aa2, an2, ac2, aa3, an3, ac3, aps, ap, ah2, ah3, ahl, ahk⟩ := Ea.open
  obtain ⟨g', hg', za0, za1, za2, za3⟩ := D4.out.at pa _ ap
  cases hg'
  dsimp only at za0 za1 za2 za3
  have hpa : pa < nv := by have := HNV.out; have := (List.getElem?_eq_some_iff.1 ap).1; omega
  have hpaI : (pa : Int) < (nv : Int) := by omega
  clear ap Ea
  have Eb := K4'.out 1 pb _ rfl rfl
  obtain ⟨ba2, bn2, bc2, ba3, bn3, bc3, bps, bp, bh2, bh3, bhl, bhk⟩ := Eb.open
  obtain ⟨g', hg', zb0, zb1, zb2, zb3⟩ := D4.out.at pb _ bp
  cases hg'
  dsimp only at zb0 zb1 zb2 zb3
  have hpb : pb < nv := by have := HNV.out; have := (List.getElem?_eq_some_iff.1 bp).1; omega
  have hpbI : (pb : Int) < (nv : Int) := by omega
  clear bp Eb
  have Ec := K4'.out 2 pc _ rfl rfl
  obtain ⟨ca2, cn2, cc2, ca3, cn3, cc3, cps, cp, ch2, ch3, chl, chk⟩ := Ec.open
  obtain ⟨g', hg', zc0, zc1, zc2, zc3⟩ := D4.out.at pc _ cp
  cases hg'
  dsimp only at zc0 zc1 zc2 zc3
  have hpc : pc < nv := by have := HNV.out; have := (List.getElem?_eq_some_iff.1 cp).1; omega
  have hpcI : (pc : Int) < (nv : Int) := by omega
  clear cp Ec
  have Ed := K4'.out 3 pd _ rfl rfl
  obtain ⟨da2, dn2, dc2, da3, dn3, dc3, dps, dp, dh2, dh3, dhl, dhk⟩ := Ed.open
  obtain ⟨g', hg', zd0, zd1, zd2, zd3⟩ := D4.out.at pd _ dp
  cases hg'
  dsimp only at zd0 zd1 zd2 zd3
  have hpd : pd < nv := by have := HNV.out; have := (List.getElem?_eq_some_iff.1 dp).1; omega
  have hpdI : (pd : Int) < (nv : Int) := by omega
  clear dp Ed
  obtain ⟨⟨q0', q1', _, _⟩, _⟩ := cells4 BD4.out
  go_wp2_with fail
  have nn7 := World.new_ne w4 _ q0'
  have nn8 := World.new_ne w4 _ q3
  have nni := World.new_ne w4 _ i0
  have nnv := World.new_ne w4 _ za0
  have KS : ∀ w', Touch (fun _ => False) w4 w' → w'.cell? ⟨p7, 0, none⟩ = some (.slice (some ⟨gv, 0, none⟩) nv cv) ∧ w'.cell? ⟨p8, 3, none⟩ = some (.slice (some ⟨gi, 0, none⟩) 4 c3) ∧ w'.cell? ⟨gi, 0, none⟩ = some (.int .i64 (pa : Nat)) ∧ w'.cell? ⟨gi, 1, none⟩ = some (.int .i64 (pb : Nat)) ∧ w'.cell? ⟨gi, 2, none⟩ = some (.int .i64 (pc : Nat)) ∧ w'.cell? ⟨gi, 3, none⟩ = some (.int .i64 (pd : Nat)) ∧ w'.cell? ⟨gv, pa * 4, none⟩ = some (.int .i64 ka) ∧ w'.cell? ⟨gv, pa * 4 + 1, none⟩ = some (.string ta) ∧ w'.cell? ⟨gv, pa * 4 + 2, none⟩ = some (.slice aa2 an2 ac2) ∧ w'.cell? ⟨gv, pa * 4 + 3, none⟩ = some (.slice aa3 an3 ac3) ∧ w'.cell? ⟨gv, pb * 4, none⟩ = some (.int .i64 kb) ∧ w'.cell? ⟨gv, pb * 4 + 1, none⟩ = some (.string tb) ∧ w'.cell? ⟨gv, pb * 4 + 2, none⟩ = some (.slice ba2 bn2 bc2) ∧ w'.cell? ⟨gv, pb * 4 + 3, none⟩ = some (.slice ba3 bn3 bc3) ∧ w'.cell? ⟨gv, pc * 4, none⟩ = some (.int .i64 kc) ∧ w'.cell? ⟨gv, pc * 4 + 1, none⟩ = some (.string tc) ∧ w'.cell? ⟨gv, pc * 4 + 2, none⟩ = some (.slice ca2 cn2 cc2) ∧ w'.cell? ⟨gv, pc * 4 + 3, none⟩ = some (.slice ca3 cn3 cc3) ∧ w'.cell? ⟨gv, pd * 4, none⟩ = some (.int .i64 kd) ∧ w'.cell? ⟨gv, pd * 4 + 1, none⟩ = some (.string td) ∧ w'.cell? ⟨gv, pd * 4 + 2, none⟩ = some (.slice da2 dn2 dc2) ∧ w'.cell? ⟨gv, pd * 4 + 3, none⟩ = some (.slice da3 dn3 dc3) := fun w' tc => by
    have lp7 := lt_of_block BD4.out
    have lp8 := lt_of_block BX.out
    have lgi := World.block_lt_of_cell? w4 _ i0
    have lgv := World.block_lt_of_cell? w4 _ za0
    refine ⟨(tc.cell (p := ⟨p7, 0, none⟩) lp7 id).trans q0', (tc.cell (p := ⟨p8, 3, none⟩) lp8 id).trans q3, ?_⟩
    exact ⟨(tc.cell (p := ⟨gi, 0, none⟩) lgi id).trans i0, (tc.cell (p := ⟨gi, 1, none⟩) lgi id).trans i1, (tc.cell (p := ⟨gi, 2, none⟩) lgi id).trans i2, (tc.cell (p := ⟨gi, 3, none⟩) lgi id).trans i3, (tc.cell (p := ⟨gv, pa * 4, none⟩) lgv id).trans za0, (tc.cell (p := ⟨gv, pa * 4 + 1, none⟩) lgv id).trans za1, (tc.cell (p := ⟨gv, pa * 4 + 2, none⟩) lgv id).trans za2, (tc.cell (p := ⟨gv, pa * 4 + 3, none⟩) lgv id).trans za3, (tc.cell (p := ⟨gv, pb * 4, none⟩) lgv id).trans zb0, (tc.cell (p := ⟨gv, pb * 4 + 1, none⟩) lgv id).trans zb1, (tc.cell (p := ⟨gv, pb * 4 + 2, none⟩) lgv id).trans zb2, (tc.cell (p := ⟨gv, pb * 4 + 3, none⟩) lgv id).trans zb3, (tc.cell (p := ⟨gv, pc * 4, none⟩) lgv id).trans zc0, (tc.cell (p := ⟨gv, pc * 4 + 1, none⟩) lgv id).trans zc1, (tc.cell (p := ⟨gv, pc * 4 + 2, none⟩) lgv id).trans zc2, (tc.cell (p := ⟨gv, pc * 4 + 3, none⟩) lgv id).trans zc3, (tc.cell (p := ⟨gv, pd * 4, none⟩) lgv id).trans zd0, (tc.cell (p := ⟨gv, pd * 4 + 1, none⟩) lgv id).trans zd1, (tc.cell (p := ⟨gv, pd * 4 + 2, none⟩) lgv id).trans zd2, (tc.cell (p := ⟨gv, pd * 4 + 3, none⟩) lgv id).trans zd3⟩
  go_cut [9, 10, 11, 12] (fun v9 v10 v11 v12 wd => ∃ g9 g10 g11 g12, v9 = .pointer (some ⟨g9, 0, none⟩) ∧ v10 = .pointer (some ⟨g10, 0, none⟩) ∧ v11 = .pointer (some ⟨g11, 0, none⟩) ∧ v12 = .pointer (some ⟨g12, 0, none⟩) ∧ wd.heap[g9]? = some (.cells #[.int .i64 ka, .string ta, .slice aa2 an2 ac2, .slice aa3 an3 ac3] 53 (0, 0)) ∧ wd.heap[g10]? = some (.cells #[.int .i64 kb, .string tb, .slice ba2 bn2 bc2, .slice ba3 bn3 bc3] 53 (0, 0)) ∧ wd.heap[g11]? = some (.cells #[.int .i64 kc, .string tc, .slice ca2 cn2 cc2, .slice ca3 cn3 cc3] 53 (0, 0)) ∧ wd.heap[g12]? = some (.cells #[.int .i64 kd, .string td, .slice da2 dn2 dc2, .slice da3 dn3 dc3] 53 (0, 0)) ∧ Touch (fun _ => False) w4 wd)
  case first =>
    clear k0 k1 k2 k3 q0 q1 q2 HO hnb hnd hld T4 D4 S4 I4 K4' BX HL HNV
    go_region_held3 (fun w' => w'.cell? ⟨p7, 0, none⟩ = some (.slice (some ⟨gv, 0, none⟩) nv cv) ∧ w'.cell? ⟨p8, 3, none⟩ = some (.slice (some ⟨gi, 0, none⟩) 4 c3) ∧ w'.cell? ⟨gi, 0, none⟩ = some (.int .i64 (pa : Nat)) ∧ w'.cell? ⟨gi, 1, none⟩ = some (.int .i64 (pb : Nat)) ∧ w'.cell? ⟨gi, 2, none⟩ = some (.int .i64 (pc : Nat)) ∧ w'.cell? ⟨gi, 3, none⟩ = some (.int .i64 (pd : Nat)) ∧ w'.cell? ⟨gv, pa * 4, none⟩ = some (.int .i64 ka) ∧ w'.cell? ⟨gv, pa * 4 + 1, none⟩ = some (.string ta) ∧ w'.cell? ⟨gv, pa * 4 + 2, none⟩ = some (.slice aa2 an2 ac2) ∧ w'.cell? ⟨gv, pa * 4 + 3, none⟩ = some (.slice aa3 an3 ac3) ∧ w'.cell? ⟨gv, pb * 4, none⟩ = some (.int .i64 kb) ∧ w'.cell? ⟨gv, pb * 4 + 1, none⟩ = some (.string tb) ∧ w'.cell? ⟨gv, pb * 4 + 2, none⟩ = some (.slice ba2 bn2 bc2) ∧ w'.cell? ⟨gv, pb * 4 + 3, none⟩ = some (.slice ba3 bn3 bc3) ∧ w'.cell? ⟨gv, pc * 4, none⟩ = some (.int .i64 kc) ∧ w'.cell? ⟨gv, pc * 4 + 1, none⟩ = some (.string tc) ∧ w'.cell? ⟨gv, pc * 4 + 2, none⟩ = some (.slice ca2 cn2 cc2) ∧ w'.cell? ⟨gv, pc * 4 + 3, none⟩ = some (.slice ca3 cn3 cc3) ∧ w'.cell? ⟨gv, pd * 4, none⟩ = some (.int .i64 kd) ∧ w'.cell? ⟨gv, pd * 4 + 1, none⟩ = some (.string td) ∧ w'.cell? ⟨gv, pd * 4 + 2, none⟩ = some (.slice da2 dn2 dc2) ∧ w'.cell? ⟨gv, pd * 4 + 3, none⟩ = some (.slice da3 dn3 dc3)) ((refine KS _ ?_; repeat (first | exact Touch.refl _ _ | refine Touch.drew ?_ | refine Touch.alloc ?_ _ | refine Touch.setCell ?_ (fun h => absurd h (by simp)) _))) (fail)
    all_goals
     as_aux_lemma =>
      go_wp2
      go_meet
      case rel =>
        refine ⟨_, _, _, _, rfl, rfl, rfl, rfl, ?_, ?_, ?_, ?_, ?_⟩
        all_goals first
          | exact (four_drew w4 _ _ _ _ 53).1
          | exact (four_drew w4 _ _ _ _ 53).2.1
          | exact (four_drew w4 _ _ _ _ 53).2.2.1
          | exact (four_drew w4 _ _ _ _ 53).2.2.2.1
          | exact (four_drew w4 _ _ _ _ 53).2.2.2.2
  obtain ⟨g9, g10, g11, g12, rfl, rfl, rfl, rfl, hb9, hb10, hb11, hb12, hcw⟩ := hcut
  obtain ⟨w5, hw5⟩ : ∃ w5, w5 = wc := ⟨_, rfl⟩
  rw [← hw5] at hb9 hb10 hb11 hb12 hcw ⊢
  clear hw5
  have N9 := hid hb9
  have N10 := hid hb10
  have N11 := hid hb11
  have N12 := hid hb12
  have T5 := hid (T4.out.trans hcw (fun _ _ e => e))
  have BD5 := hid ((hcw.block p7 (lt_of_block BD4.out) id).trans BD4.out)
  have D5 := hid (show DL _ (.slice (some ⟨gv, 0, none⟩) nv cv) ds from rowKept D4.out hcw (fun _ _ e => e))
  have J5 := hid (show IL _ (.slice da3 dn3 dc3) dps from rowKept dh3 hcw (fun _ _ e => e))
  have KD5 := hid (fun i q x h1 h2 => (dhk i q x h1 h2).kept hcw (fun _ _ e => e))
  have HDL := hid dhl
  have HND := hid hnd
  have HNB := hid hnb
  clear hb9 hb10 hb11 hb12 hcw T4 BD4 D4 S4 I4 K4' BX HL KS nn7 nn8 nni nnv q0 q1 q2 q3 q0' q1' k0 k1 k2 k3 i0 i1 i2 i3 dh3 dhk dhl hnd hnb
  clear za0 za1 za2 za3 zb0 zb1 zb2 zb3 zc0 zc1 zc2 zc3 zd0 zd1 zd2 zd3
  clear ah2 ah3 ahl ahk bh2 bh3 bhl bhk ch2 ch3 chl chk dh2
  obtain ⟨⟨y0, y1, y2, y3⟩, _⟩ := cells4 N10.out
  have KC := hid (count_any kb tb ba2 ba3 bn2 bc2 bn3 bc3 w5 HNB.out)
  have HCI := hid (show cntI kb tb = if numB kb tb = true then (numN kb tb : Int) else -1 from by
    unfold cntI numN
    by_cases h : numB kb tb = true
    · rw [if_pos h, if_pos h, if_pos h]
    · rw [if_neg h, if_neg h])
  generalize hNB : numB kb tb = NB at *
  generalize hNN : numN kb tb = NN at *
  generalize cntI kb tb = CI at *
  clear hNB hNN
  go_wp2_with fail
  refine KC.out.mono ?_
  rintro e w6 ⟨rfl, t6⟩
  have T6 := hid (T5.out.trans t6 (fun _ _ e => e))
  have M9 := hid ((t6.block g9 (lt_of_block N9.out) id).trans N9.out)
  have M11 := hid ((t6.block g11 (lt_of_block N11.out) id).trans N11.out)
  have M12 := hid ((t6.block g12 (lt_of_block N12.out) id).trans N12.out)
  have BD6 := hid ((t6.block p7 (lt_of_block BD5.out) id).trans BD5.out)
  have D6 := hid (show DL _ (.slice (some ⟨gv, 0, none⟩) nv cv) ds from rowKept D5.out t6 (fun _ _ e => e))
  have J6 := hid (show IL _ (.slice da3 dn3 dc3) dps from rowKept J5.out t6 (fun _ _ e => e))
  have KD6 := hid (fun i q x h1 h2 => (KD5.out i q x h1 h2).kept t6 (fun _ _ e => e))
  clear t6 KC T5 N9 N10 N11 N12 BD5 D5 J5 KD5 y0 y1 y2 y3
  obtain ⟨⟨x0, x1, x2, x3⟩, _⟩ := cells4 M9.out
  obtain ⟨⟨z0, z1, z2, z3⟩, _⟩ := cells4 M11.out
  obtain ⟨⟨mn0, mn1, mn2, mn3⟩, _⟩ := cells4 M12.out
  by_cases hka : ka = 4
  case neg =>
    have hbA : (ka != 4) = true := by simp; exact hka
    have HE := hid (show OO = none from by rw [HO.out, if_neg (by rintro ⟨h, _⟩; exact hka h)])
    clear HO
    go_wp2
    refine bodyPost_ret (results_tmp5 rfl _ _ _) rfl ?_
    exact rd_none HE.out rfl T6.out
  have hbA : (ka != 4) = false := by simp; exact hka
  by_cases hkc : kc = 4
  case neg =>
    have hbC : (kc != 4) = true := by simp; exact hkc
    have HE := hid (show OO = none from by rw [HO.out, if_neg (by rintro ⟨_, _, h⟩; exact hkc h)])
    clear HO
    go_wp2
    refine bodyPost_ret (results_tmp5 rfl _ _ _) rfl ?_
    exact rd_none HE.out rfl T6.out
  have hbC : (kc != 4) = false := by simp; exact hkc
  by_cases hkd : kd = 5
  case neg =>
    have hbD : (kd != 5) = true := by simp; exact hkd
    have HE := hid (show OO = none from by
      rw [HO.out, spans_eq, if_neg hkd]
      split <;> rfl)
    clear HO
    go_wp2
    refine bodyPost_ret (results_tmp5 rfl _ _ _) rfl ?_
    exact rd_none HE.out rfl T6.out
  have hbD : (kd != 5) = false := by simp; exact hkd
  cases NB with
  | false =>
    have HE := hid (show OO = none from by rw [HO.out, if_neg (by rintro ⟨_, h, _⟩; cases h)])
    have hci : CI = -1 := HCI.out
    subst hci
    clear HO HCI
    go_wp2
    refine bodyPost_ret (results_tmp5 rfl _ _ _) rfl ?_
    exact rd_none HE.out rfl T6.out
  | true =>
  have hci : CI = (NN : Int) := HCI.out
  subst hci
  have HX := hid (show OO = match splO ld with
      | none => none
      | some l => some (ta, NN, tc, l) from by rw [HO.out, if_pos ⟨hka, rfl, hkc⟩, spans_eq, if_pos hkd]; cases splO ld <;> rfl)
  have HDN := hid (show dn3 = ld.length from J6.out.len.trans HDL.out)
  have hmd : dn3 ≤ 8000000 := by rw [HDN.out]; exact hld
  obtain ⟨i0', hi30, hz0, hz1, hz2⟩ := info_parts info30b
  clear HO HCI hld
  have S0 := hid (show SPL 30 w6 w6 (.slice none 0 0) [] from ⟨World.ownsRow_nil _ _ _ _, (fun g e => by cases e), Touch.refl _ _⟩)
  go_wp2_with fail
  go_loopg [14, 15] dn3 (fun gk v14 v15 wq => ∃ (i : Nat) (qs : List (Nat × Nat)) (a : Option Addr) (c : Nat), i + gk = dn3 ∧ v15 = .int .i64 (i : Nat) ∧ v14 = .slice a i c ∧ Hid (splO (ld.take i) = some qs) ∧ Hid (qs.length = i) ∧ Hid (SPL 30 w6 wq (.slice a i c) qs))
  case atStart => exact ⟨0, [], none, 0, by omega, rfl, rfl, hid rfl, hid rfl, S0⟩
  case round =>
    obtain ⟨i, qs, a, c, hi, rfl, rfl, HP, HN, SS⟩ := hrel
    clear S0
    clear x0 x1 x2 x3 z0 z1 z2 z3 mn0 mn1 mn2 mn3
    have TW := SS.out.touch
    have M12r := hid ((TW.block g12 (lt_of_block M12.out) id).trans M12.out)
    have BDr := hid ((TW.block p7 (lt_of_block BD6.out) id).trans BD6.out)
    obtain ⟨⟨mm0, mm1, mm2, mm3⟩, _⟩ := cells4 M12r.out
    obtain ⟨⟨q0, _, _, _⟩, _⟩ := cells4 BDr.out
    by_cases hlt : i < dn3
    · have hltI : (i : Int) < (dn3 : Int) := by omega
      obtain ⟨kx, hkx⟩ : ∃ kx, ld[i]? = some kx := ⟨_, List.getElem?_eq_getElem (by have := HDN.out; omega)⟩
      obtain ⟨pq, hpq⟩ : ∃ pq, dps[i]? = some pq := ⟨_, List.getElem?_eq_getElem (by have := HDN.out; have := HDL.out; omega)⟩
      have EX := KD6.out i pq kx hpq hkx
      have HNX := hid (HND.out kx (List.mem_of_getElem? hkx))
      obtain ⟨kk, tk, sk, lk2⟩ := kx
      obtain ⟨xa2, xn2, xc2, xa3, xn3, xc3, xps, xp, xh2, xh3, xhl, xhk⟩ := EX.open
      obtain ⟨g', hg', x0, x1, x2, x3⟩ := D6.out.at pq _ xp
      cases hg'
      dsimp only at x0 x1 x2 x3
      have hpqn : pq < nv := by have := HNV.out; have := (List.getElem?_eq_some_iff.1 xp).1; omega
      have hpqI : (pq : Int) < (nv : Int) := by omega
      obtain ⟨gj, rfl, j0⟩ := J6.out.at i pq hpq
      have lgv := World.block_lt_of_cell? w6 _ x0
      have lgj := World.block_lt_of_cell? w6 _ j0
      replace x0 := (TW.cell (p := ⟨gv, pq * 4, none⟩) lgv id).trans x0
      replace x1 := (TW.cell (p := ⟨gv, pq * 4 + 1, none⟩) lgv id).trans x1
      replace x2 := (TW.cell (p := ⟨gv, pq * 4 + 2, none⟩) lgv id).trans x2
      replace x3 := (TW.cell (p := ⟨gv, pq * 4 + 3, none⟩) lgv id).trans x3
      replace j0 := (TW.cell (p := ⟨gj, i, none⟩) lgj id).trans j0
      have X3 := hid (show IL wr (.slice xa3 xn3 xc3) xps from rowKept xh3 TW (fun _ _ e => e))
      have XK := hid (fun i q x h1 h2 => (xhk i q x h1 h2).kept TW (fun _ _ e => e))
      have XL := hid xhl
      have HKX := hid hkx
      have Dr := hid (show DL wr (.slice (some ⟨gv, 0, none⟩) nv cv) ds from rowKept D6.out TW (fun _ _ e => e))
      clear EX xh2 xh3 xhl xhk xp hkx hpq lgv lgj
      have lgv : gv < wr.heap.size := World.block_lt_of_cell? wr _ x0
      have lgj : gj < wr.heap.size := World.block_lt_of_cell? wr _ j0
      have lg12 := lt_of_block M12r.out
      have lp7 := lt_of_block BDr.out
      have nv0 : gv ≠ wr.heap.size := by omega
      have nj0 : gj ≠ wr.heap.size := by omega
      have n12 : g12 ≠ wr.heap.size := by omega
      have np0 : p7 ≠ wr.heap.size := by omega
      have cA : ∀ o i, (wr.alloc o).cell? ⟨gv, i, none⟩ = wr.cell? ⟨gv, i, none⟩ := fun o i => ((Touch.refl (fun _ => False) wr).alloc o).cell (p := ⟨gv, i, none⟩) lgv id
      have cB : ∀ o i, (wr.alloc o).cell? ⟨gj, i, none⟩ = wr.cell? ⟨gj, i, none⟩ := fun o i => ((Touch.refl (fun _ => False) wr).alloc o).cell (p := ⟨gj, i, none⟩) lgj id
      have cC : ∀ o i, (wr.alloc o).cell? ⟨g12, i, none⟩ = wr.cell? ⟨g12, i, none⟩ := fun o i => ((Touch.refl (fun _ => False) wr).alloc o).cell (p := ⟨g12, i, none⟩) lg12 id
      have cD : ∀ o i, (wr.alloc o).cell? ⟨p7, i, none⟩ = wr.cell? ⟨p7, i, none⟩ := fun o i => ((Touch.refl (fun _ => False) wr).alloc o).cell (p := ⟨p7, i, none⟩) lp7 id
      go_wp2_with fail
      go_cut [16] (fun v16 wd => ∃ g16, v16 = .pointer (some ⟨g16, 0, none⟩) ∧ wd.heap[g16]? = some (.cells #[.int .i64 kk, .string tk, .slice xa2 xn2 xc2, .slice xa3 xn3 xc3] 53 (0, 0)) ∧ Touch (fun _ => False) wr wd)
      case first =>
        go_region
        all_goals
          go_wp2
          go_meet
          case rel => exact ⟨_, rfl, (one_drew wr _ 53).1, (one_drew wr _ 53).2⟩
      obtain ⟨g16, rfl, hb16, hcw⟩ := hcut
      obtain ⟨w8, hw8⟩ : ∃ w8, w8 = wc := ⟨_, rfl⟩
      rw [← hw8] at hb16 hcw ⊢
      clear hw8
      have N16 := hid hb16
      have S8 := hid (SS.out.new hcw)
      have T8 := hid (T6.out.trans S8.out.touch (fun _ _ e => e))
      have BD8 := hid ((hcw.block p7 (lt_of_block BDr.out) id).trans BDr.out)
      have D8 := hid (show DL w8 (.slice (some ⟨gv, 0, none⟩) nv cv) ds from rowKept Dr.out hcw (fun _ _ e => e))
      have X8 := hid (show IL w8 (.slice xa3 xn3 xc3) xps from rowKept X3.out hcw (fun _ _ e => e))
      have XK8 := hid (fun i q x h1 h2 => (XK.out i q x h1 h2).kept hcw (fun _ _ e => e))
      clear hb16 hcw SS BDr M12r Dr X3 XK nv0 nj0 n12 np0 cA cB cC cD x0 x1 x2 x3 j0 mm0 mm1 mm2 mm3 q0 lgv lgj lg12 lp7 TW
      obtain ⟨⟨x0, x1, x2, x3⟩, _⟩ := cells4 N16.out
      have HSP := hid (span_eq kk tk sk lk2)
      by_cases hk5 : kk = 5
      case neg =>
        have hb5 : (kk != 5) = true := by simp; exact hk5
        have HE := hid (show OO = none from by rw [HX.out, spl_bad HP.out HKX.out (by rw [HSP.out, if_neg hk5])])
        go_wp2
        refine bodyPost_ret (results_tmp5 rfl _ _ _) rfl ?_
        exact rd_none HE.out rfl T8.out
      have hb5 : (kk != 5) = false := by simp; exact hk5
      by_cases hx2 : xn3 = 2
      case neg =>
        have hb2 : ((xn3 : Int) != 2) = true := by simp; omega
        have HE := hid (show OO = none from by
          have hne : lk2.length ≠ 2 := fun e => hx2 ((X8.out.len.trans XL.out).trans e)
          rw [HX.out, spl_bad HP.out HKX.out (by
            rw [HSP.out, if_pos hk5]
            match lk2, hne with
            | [], _ => rfl
            | [.node _ _ _ _], _ => rfl
            | .node _ _ _ _ :: .node _ _ _ _ :: _ :: _, _ => rfl)])
        go_wp2
        refine bodyPost_ret (results_tmp5 rfl _ _ _) rfl ?_
        exact rd_none HE.out rfl T8.out
      subst hx2
      obtain ⟨⟨k1, t1, s1, l1⟩, ⟨k2, t2, s2, l2⟩, hl2⟩ : ∃ y1 y2, lk2 = [y1, y2] := by
        match lk2, X8.out.len.trans XL.out with
        | [y1, y2], _ => exact ⟨y1, y2, rfl⟩
      subst hl2
      obtain ⟨r1, r2, hr2⟩ : ∃ r1 r2, xps = [r1, r2] := by
        match xps, XL.out with
        | [r1, r2], _ => exact ⟨r1, r2, rfl⟩
      subst hr2
      obtain ⟨gx, hgx, m0⟩ := X8.out.at 0 r1 rfl
      cases hgx
      obtain ⟨gx', hgx, m1⟩ := X8.out.at 1 r2 rfl
      cases hgx
      have E1 := XK8.out 0 r1 _ rfl rfl
      have E2 := XK8.out 1 r2 _ rfl rfl
      obtain ⟨e12, f12, h12, e13, f13, h13, ps1, p1, _, _, _, _⟩ := E1.open
      obtain ⟨g', hg', a10, a11, a12, a13⟩ := D8.out.at r1 _ p1
      cases hg'
      dsimp only at a10 a11 a12 a13
      have hr1 : r1 < nv := by have := HNV.out; have := (List.getElem?_eq_some_iff.1 p1).1; omega
      have hr1I : (r1 : Int) < (nv : Int) := by omega
      clear p1 E1
      obtain ⟨e22, f22, h22, e23, f23, h23, ps2, p2, _, _, _, _⟩ := E2.open
      obtain ⟨g', hg', a20, a21, a22, a23⟩ := D8.out.at r2 _ p2
      cases hg'
      dsimp only at a20 a21 a22 a23
      have hr2 : r2 < nv := by have := HNV.out; have := (List.getElem?_eq_some_iff.1 p2).1; omega
      have hr2I : (r2 : Int) < (nv : Int) := by omega
      clear p2 E2
      have HN1 := hid (HNX.out kk tk sk _ rfl (.node k1 t1 s1 l1) (by simp) k1 t1 s1 l1 rfl)
      have HN2 := hid (HNX.out kk tk sk _ rfl (.node k2 t2 s2 l2) (by simp) k2 t2 s2 l2 rfl)
      have KC1 := hid (fun w' => count_any k1 t1 e12 e13 f12 h12 f13 h13 w' HN1.out)
      have KC2 := hid (fun w' => count_any k2 t2 e22 e23 f22 h22 f23 h23 w' HN2.out)
      obtain ⟨⟨q0, _, _, _⟩, _⟩ := cells4 BD8.out
      have KS2 : ∀ w', Touch (fun _ => False) w8 w' → w'.cell? ⟨p7, 0, none⟩ = some (.slice (some ⟨gv, 0, none⟩) nv cv) ∧ w'.cell? ⟨g16, 3, none⟩ = some (.slice (some ⟨gx, 0, none⟩) 2 xc3) ∧ w'.cell? ⟨gx, 0, none⟩ = some (.int .i64 (r1 : Nat)) ∧ w'.cell? ⟨gx, 1, none⟩ = some (.int .i64 (r2 : Nat)) ∧ w'.cell? ⟨gv, r1 * 4, none⟩ = some (.int .i64 k1) ∧ w'.cell? ⟨gv, r1 * 4 + 1, none⟩ = some (.string t1) ∧ w'.cell? ⟨gv, r1 * 4 + 2, none⟩ = some (.slice e12 f12 h12) ∧ w'.cell? ⟨gv, r1 * 4 + 3, none⟩ = some (.slice e13 f13 h13) ∧ w'.cell? ⟨gv, r2 * 4, none⟩ = some (.int .i64 k2) ∧ w'.cell? ⟨gv, r2 * 4 + 1, none⟩ = some (.string t2) ∧ w'.cell? ⟨gv, r2 * 4 + 2, none⟩ = some (.slice e22 f22 h22) ∧ w'.cell? ⟨gv, r2 * 4 + 3, none⟩ = some (.slice e23 f23 h23) := fun w' tc => by
        have lp7 := lt_of_block BD8.out
        have lg16 := lt_of_block N16.out
        have lgx := World.block_lt_of_cell? w8 _ m0
        have lgv := World.block_lt_of_cell? w8 _ a10
        refine ⟨(tc.cell (p := ⟨p7, 0, none⟩) lp7 id).trans q0, (tc.cell (p := ⟨g16, 3, none⟩) lg16 id).trans x3, (tc.cell (p := ⟨gx, 0, none⟩) lgx id).trans m0, (tc.cell (p := ⟨gx, 1, none⟩) lgx id).trans m1, ?_⟩
        exact ⟨(tc.cell (p := ⟨gv, r1 * 4, none⟩) lgv id).trans a10, (tc.cell (p := ⟨gv, r1 * 4 + 1, none⟩) lgv id).trans a11, (tc.cell (p := ⟨gv, r1 * 4 + 2, none⟩) lgv id).trans a12, (tc.cell (p := ⟨gv, r1 * 4 + 3, none⟩) lgv id).trans a13, (tc.cell (p := ⟨gv, r2 * 4, none⟩) lgv id).trans a20, (tc.cell (p := ⟨gv, r2 * 4 + 1, none⟩) lgv id).trans a21, (tc.cell (p := ⟨gv, r2 * 4 + 2, none⟩) lgv id).trans a22, (tc.cell (p := ⟨gv, r2 * 4 + 3, none⟩) lgv id).trans a23⟩
      go_wp2_with fail
      go_cut [17, 18] (fun v17 v18 wd => v17 = .int .i64 (cntI k1 t1) ∧ v18 = .int .i64 (cntI k2 t2) ∧ Touch (fun _ => False) w8 wd)
      case first =>
        refine wp_region_class (fun w' => Touch (fun _ => False) w8 w') (by kernel_rfl) (by kernel_rfl) (Touch.refl _ w8).drew ?_
        go_big_quiet_want
        go_big_quiet_op
        refine ⟨_, fun _ _ => rfl, ?_⟩
        go_big_quiet_on
        go_big_quiet_want
        go_big_quiet_op
        refine ⟨.slice (some ⟨gv, 0, none⟩) nv cv, fun w hw => ?_, ?_⟩
        · obtain ⟨f0, f1, f2, f3, f4, f5, f6, f7, f8, f9, f10, f11⟩ := KS2 w hw
          go_simp
        go_big_quiet_on
        go_big_quiet_want
        go_big_quiet_op
        refine ⟨_, fun _ _ => rfl, ?_⟩
        go_big_quiet_on
        go_big_quiet_want
        go_big_quiet_op
        refine ⟨.slice (some ⟨gx, 0, none⟩) 2 xc3, fun w hw => ?_, ?_⟩
        · obtain ⟨f0, f1, f2, f3, f4, f5, f6, f7, f8, f9, f10, f11⟩ := KS2 w hw
          go_simp
        go_big_quiet_on
        go_big_quiet_want
        go_big_quiet_op
        refine ⟨_, fun _ _ => rfl, ?_⟩
        go_big_quiet_on
        go_big_quiet_want
        go_big_quiet_op
        refine ⟨.int .i64 (r1 : Nat), fun w hw => ?_, ?_⟩
        · obtain ⟨f0, f1, f2, f3, f4, f5, f6, f7, f8, f9, f10, f11⟩ := KS2 w hw
          go_simp
        go_big_quiet_on
        go_big_quiet_want
        go_big_quiet_op
        refine ⟨.pointer (some ⟨gv, r1 * 4, none⟩), fun w hw => ?_, ?_⟩
        · obtain ⟨f0, f1, f2, f3, f4, f5, f6, f7, f8, f9, f10, f11⟩ := KS2 w hw
          go_simp
        go_big_quiet_on
        go_big_quiet_want
        go_big_quiet_op
        refine ⟨.agg #[.int .i64 k1, .string t1, .slice e12 f12 h12, .slice e13 f13 h13], fun w hw => ?_, ?_⟩
        · obtain ⟨f0, f1, f2, f3, f4, f5, f6, f7, f8, f9, f10, f11⟩ := KS2 w hw
          go_simp
        go_big_quiet_on
        go_big_quiet_want
        go_big_quiet_op
        refine ⟨.int .i64 (cntI k1 t1), fun w hw => ?_, ?_⟩
        · exact (KC1.out w).mono (fun _ _ hh => ⟨hh.1, hw.trans hh.2 (fun _ _ e => e)⟩)
        go_big_quiet_on
        go_big_quiet_want
        go_big_quiet_op
        refine ⟨_, fun _ _ => rfl, ?_⟩
        go_big_quiet_on
        go_big_quiet_want
        go_big_quiet_op
        refine ⟨.slice (some ⟨gv, 0, none⟩) nv cv, fun w hw => ?_, ?_⟩
        · obtain ⟨f0, f1, f2, f3, f4, f5, f6, f7, f8, f9, f10, f11⟩ := KS2 w hw
          go_simp
        go_big_quiet_on
        go_big_quiet_want
        go_big_quiet_op
        refine ⟨_, fun _ _ => rfl, ?_⟩
        go_big_quiet_on
        go_big_quiet_want
        go_big_quiet_op
        refine ⟨.slice (some ⟨gx, 0, none⟩) 2 xc3, fun w hw => ?_, ?_⟩
        · obtain ⟨f0, f1, f2, f3, f4, f5, f6, f7, f8, f9, f10, f11⟩ := KS2 w hw
          go_simp
        go_big_quiet_on
        go_big_quiet_want
        go_big_quiet_op
        refine ⟨_, fun _ _ => rfl, ?_⟩
        go_big_quiet_on
        go_big_quiet_want
        go_big_quiet_op
        refine ⟨.int .i64 (r2 : Nat), fun w hw => ?_, ?_⟩
        · obtain ⟨f0, f1, f2, f3, f4, f5, f6, f7, f8, f9, f10, f11⟩ := KS2 w hw
          go_simp
        go_big_quiet_on
        go_big_quiet_want
        go_big_quiet_op
        refine ⟨.pointer (some ⟨gv, r2 * 4, none⟩), fun w hw => ?_, ?_⟩
        · obtain ⟨f0, f1, f2, f3, f4, f5, f6, f7, f8, f9, f10, f11⟩ := KS2 w hw
          go_simp
        go_big_quiet_on
        go_big_quiet_want
        go_big_quiet_op
        refine ⟨.agg #[.int .i64 k2, .string t2, .slice e22 f22 h22, .slice e23 f23 h23], fun w hw => ?_, ?_⟩
        · obtain ⟨f0, f1, f2, f3, f4, f5, f6, f7, f8, f9, f10, f11⟩ := KS2 w hw
          go_simp
        go_big_quiet_on
        go_big_quiet_want
        go_big_quiet_op
        refine ⟨.int .i64 (cntI k2 t2), fun w hw => ?_, ?_⟩
        · exact (KC2.out w).mono (fun _ _ hh => ⟨hh.1, hw.trans hh.2 (fun _ _ e => e)⟩)
        go_big_quiet_on
        go_big_quiet_want
        go_big_quiet_op
        go_big_quiet_on
        go_big_quiet_want
        go_big_quiet_op
        go_big_quiet_on
        refine wpQuiet_nil ?_
        intro wq TQ
        go_wp2
        go_meet
        case rel => exact ⟨rfl, rfl, TQ⟩
      obtain ⟨rfl, rfl, hcw⟩ := hcut
      obtain ⟨w9, hw9⟩ : ∃ w9, w9 = wc := ⟨_, rfl⟩
      rw [← hw9] at hcw ⊢
      clear hw9
      have S9 := hid (S8.out.new hcw)
      have T9 := hid (T8.out.trans hcw (fun _ _ e => e))
      have HPR := hid (pair_eq k1 k2 t1 t2 s1 s2 l1 l2)
      have HC1 := hid (cnt_eq k1 t1)
      have HC2 := hid (cnt_eq k2 t2)
      clear hcw S8 T8 KS2 KC1 KC2 HN1 HN2 X8 XK8 D8 BD8 N16 q0 x0 x1 x2 x3 m0 m1 a10 a11 a12 a13 a20 a21 a22 a23 HNX
      generalize numB k1 t1 = B1 at *
      generalize numB k2 t2 = B2 at *
      generalize numN k1 t1 = N1 at *
      generalize numN k2 t2 = N2 at *
      generalize cntI k1 t1 = C1 at *
      generalize cntI k2 t2 = C2 at *
      cases B1 with
      | false =>
        have hc1 : C1 = -1 := HC1.out
        subst hc1
        have HE := hid (show OO = none from by rw [HX.out, spl_bad HP.out HKX.out (by rw [HSP.out, if_pos hk5, HPR.out, if_neg (by rintro ⟨h, _⟩; cases h)])])
        clear HC1 HC2 HPR HSP HP HKX HX
        go_wp2
        all_goals
          refine bodyPost_ret (results_tmp5 rfl _ _ _) rfl ?_
          exact rd_none HE.out rfl T9.out
      | true =>
        have hc1 : C1 = (N1 : Int) := HC1.out
        subst hc1
        have hn1 : ¬ (N1 : Int) < 0 := by omega
        cases B2 with
        | false =>
          have hc2 : C2 = -1 := HC2.out
          subst hc2
          have HE := hid (show OO = none from by rw [HX.out, spl_bad HP.out HKX.out (by rw [HSP.out, if_pos hk5, HPR.out, if_neg (by rintro ⟨_, h⟩; cases h)])])
          clear HC1 HC2 HPR HSP HP HKX HX
          go_wp2
          all_goals
            refine bodyPost_ret (results_tmp5 rfl _ _ _) rfl ?_
            exact rd_none HE.out rfl T9.out
        | true =>
          have hc2 : C2 = (N2 : Int) := HC2.out
          subst hc2
          have hn2' : ¬ (N2 : Int) < 0 := by omega
          have HP2 := hid (spl_more HP.out HKX.out (p := (N1, N2)) (by rw [HSP.out, if_pos hk5, HPR.out, if_pos ⟨rfl, rfl⟩]))
          clear HC1 HC2 HPR HSP HP HKX
          have OW := hid (show w9.ownsRow 0 30 2 (.slice a i c) i (qs.flatMap pcl) from by have := S9.out.own; unfold PL at this; rw [HN.out] at this; exact this)
          go_wp2_with (at_builtin; (refine wpList_append_own_at _ rfl _ _ 26 rfl 0 30 i0' (.agg #[.int .i64 0, .int .i64 0]) 2 16 Tryd.underlying26 hi30 hz0 hz1 hz2 rfl (by decide) _ _ _ rfl (OW.out.alloc _) ⟨w9.heap.size, 0, none⟩ 1 1 [.int .i64 (N1 : Nat), .int .i64 (N2 : Nat)] rfl rfl (row_new w9 [.int .i64 (N1 : Nat), .int .i64 (N2 : Nat)] 30) (by intro u hu; simp at hu; rcases hu with rfl | rfl <;> rfl) (by unfold maxLen; omega) (by omega) (Nat.zero_le _) ?_))
          intro v' wa hown hgrow _ hat
          have SA := hid (SPL.push (p := (N1, N2)) S9.out HN.out.symm hown hgrow hat)
          obtain ⟨a8, c8, hv8⟩ := own_shape hown
          subst hv8
          clear hown hgrow hat OW S9 T9
          go_wp2
          go_roundg (gk - 1)
          case measure => omega
          case rel => exact ⟨i + 1, qs ++ [(N1, N2)], a8, c8, by omega, by go_num, rfl, HP2, hid (by rw [List.length_append, HN.out]; rfl), SA⟩
    · have hltI : ¬ (i : Int) < (dn3 : Int) := by omega
      obtain rfl : i = dn3 := by omega
      have HE := hid (show OO = some (ta, NN, tc, qs) from by
        have := HP.out
        rw [List.take_of_length_le (by rw [HDN.out]; exact Nat.le_refl _)] at this
        rw [HX.out, this])
      have M9r := hid ((TW.block g9 (lt_of_block M9.out) id).trans M9.out)
      have M11r := hid ((TW.block g11 (lt_of_block M11.out) id).trans M11.out)
      obtain ⟨⟨x0, x1, x2, x3⟩, _⟩ := cells4 M9r.out
      obtain ⟨⟨z0, z1, z2, z3⟩, _⟩ := cells4 M11r.out
      clear HX HP HND HDL KD6 J6 D6 M9 M11 M12 BD6
      go_wp2_with fail
      go_quiet (fail)
      go_wp2
      refine bodyPost_ret (results_tmp5 rfl _ _ _) rfl ?_
      exact rd_some HE.out rfl (rowKept SS.out.own ((Touch.refl (fun _ => False) wr).drewN nq) (fun _ _ e => e)) ((T6.out.trans SS.out.touch (fun _ _ e => e)).trans ((Touch.refl (fun _ => False) wr).drewN nq) (fun _ _ e => e))
end Go.Proofs.YtjpmjcadnnglnaaDoor
