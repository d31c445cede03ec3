/- Show of any tree; conditions: the two tables lie there, and what is told of lengths. -/
import Derived.Test.YtabhlhgfacpohaaDoorXb
import Derived.Test.YtabhlhgfacpohaaDoorXc
import Derived.Test.YtabhlhgfacpohaaDoorQXe
namespace Go.Proofs.YtabhlhgfacpohaaDoor
open Go.RowKit
open Go.Lib

set_option maxRecDepth 100000 in
set_option maxHeartbeats 4000000 in
theorem show_null (a2 a3 : Option Addr) (n2 c2 n3 c3 : Nat) (l : Bs) (v : Value) (w : World) (ho : OB w v l) (hl : l.length ≤ 1099511627776) :
    Calls Tryd.prog 20 #[.agg #[.int .i64 0, .string ⟨#[]⟩, .slice a2 n2 c2, .slice a3 n3 c3], v] w fun e w' => ∃ v', e = .returned v' ∧ Grew w w' v v' (l ++ [110, 117, 108, 108]) := by
  obtain ⟨i0, hi5, hz0, hz1, hz2⟩ := info_parts info5b
  obtain ⟨N, hN⟩ : ∃ N, l.length = N := ⟨_, rfl⟩
  have TA := (Touch.refl (fun _ => False) w).alloc (.cells #[.int .i64 0, .string ⟨#[]⟩, .slice a2 n2 c2, .slice a3 n3 c3] 26)
  have OW := hid (show (w.alloc (.cells #[.int .i64 0, .string ⟨#[]⟩, .slice a2 n2 c2, .slice a3 n3 c3] 26)).ownsRow 0 5 1 v N (bv l) from by
    have := ho.kept TA (fun _ _ e => e)
    unfold OB at this
    rw [hN] at this
    exact this)
  have TW := hid TA
  rw [hN] at hl
  have HN := hid hN
  obtain ⟨M, hM⟩ : ∃ M : ByteArray, M = ⟨#[110, 117, 108, 108]⟩ := ⟨_, rfl⟩
  have hMs : M.size = 4 := by rw [hM]; rfl
  have HM := hid hM
  clear hN ho TA
  go_enter Tryd.func20, Tryd.ntmps20
  rw [← HM.out]
  clear hM
  go_wp2_with (at_builtin; (refine wpList_append_str_at rfl _ _ 53 9 rfl 5 i0 Tryd.underlying53 Tryd.underlying9 hi5 hz0 hz1 hz2 _ _ _ rfl OW.out M rfl (by unfold maxLen; omega) (by omega) ?_))
  intro v' w2 hown hgrow hat
  have G := hid (Grew.from TW.out (grew_str (l := l) (m := M.data.toList) (by rw [HN.out, size_list, hMs]; exact hown) hgrow (by rw [size_alloc1]; exact hat)))
  clear hown hgrow hat
  go_wp2
  go_ret
  refine ⟨v', rfl, ?_⟩
  have := G.out
  rw [HM.out] at this
  exact this
set_option maxRecDepth 100000 in
set_option maxHeartbeats 4000000 in
theorem show_false (a2 a3 : Option Addr) (n2 c2 n3 c3 : Nat) (l : Bs) (v : Value) (w : World) (ho : OB w v l) (hl : l.length ≤ 1099511627776) :
    Calls Tryd.prog 20 #[.agg #[.int .i64 1, .string ⟨#[]⟩, .slice a2 n2 c2, .slice a3 n3 c3], v] w fun e w' => ∃ v', e = .returned v' ∧ Grew w w' v v' (l ++ [102, 97, 108, 115, 101]) := by
  obtain ⟨i0, hi5, hz0, hz1, hz2⟩ := info_parts info5b
  obtain ⟨N, hN⟩ : ∃ N, l.length = N := ⟨_, rfl⟩
  have TA := (Touch.refl (fun _ => False) w).alloc (.cells #[.int .i64 1, .string ⟨#[]⟩, .slice a2 n2 c2, .slice a3 n3 c3] 26)
  have OW := hid (show (w.alloc (.cells #[.int .i64 1, .string ⟨#[]⟩, .slice a2 n2 c2, .slice a3 n3 c3] 26)).ownsRow 0 5 1 v N (bv l) from by
    have := ho.kept TA (fun _ _ e => e)
    unfold OB at this
    rw [hN] at this
    exact this)
  have TW := hid TA
  rw [hN] at hl
  have HN := hid hN
  obtain ⟨M, hM⟩ : ∃ M : ByteArray, M = ⟨#[102, 97, 108, 115, 101]⟩ := ⟨_, rfl⟩
  have hMs : M.size = 5 := by rw [hM]; rfl
  have HM := hid hM
  clear hN ho TA
  go_enter Tryd.func20, Tryd.ntmps20
  rw [← HM.out]
  clear hM
  go_wp2_with (at_builtin; (refine wpList_append_str_at rfl _ _ 53 9 rfl 5 i0 Tryd.underlying53 Tryd.underlying9 hi5 hz0 hz1 hz2 _ _ _ rfl OW.out M rfl (by unfold maxLen; omega) (by omega) ?_))
  intro v' w2 hown hgrow hat
  have G := hid (Grew.from TW.out (grew_str (l := l) (m := M.data.toList) (by rw [HN.out, size_list, hMs]; exact hown) hgrow (by rw [size_alloc1]; exact hat)))
  clear hown hgrow hat
  go_wp2
  go_ret
  refine ⟨v', rfl, ?_⟩
  have := G.out
  rw [HM.out] at this
  exact this
set_option maxRecDepth 100000 in
set_option maxHeartbeats 4000000 in
theorem show_true (a2 a3 : Option Addr) (n2 c2 n3 c3 : Nat) (l : Bs) (v : Value) (w : World) (ho : OB w v l) (hl : l.length ≤ 1099511627776) :
    Calls Tryd.prog 20 #[.agg #[.int .i64 2, .string ⟨#[]⟩, .slice a2 n2 c2, .slice a3 n3 c3], v] w fun e w' => ∃ v', e = .returned v' ∧ Grew w w' v v' (l ++ [116, 114, 117, 101]) := by
  obtain ⟨i0, hi5, hz0, hz1, hz2⟩ := info_parts info5b
  obtain ⟨N, hN⟩ : ∃ N, l.length = N := ⟨_, rfl⟩
  have TA := (Touch.refl (fun _ => False) w).alloc (.cells #[.int .i64 2, .string ⟨#[]⟩, .slice a2 n2 c2, .slice a3 n3 c3] 26)
  have OW := hid (show (w.alloc (.cells #[.int .i64 2, .string ⟨#[]⟩, .slice a2 n2 c2, .slice a3 n3 c3] 26)).ownsRow 0 5 1 v N (bv l) from by
    have := ho.kept TA (fun _ _ e => e)
    unfold OB at this
    rw [hN] at this
    exact this)
  have TW := hid TA
  rw [hN] at hl
  have HN := hid hN
  obtain ⟨M, hM⟩ : ∃ M : ByteArray, M = ⟨#[116, 114, 117, 101]⟩ := ⟨_, rfl⟩
  have hMs : M.size = 4 := by rw [hM]; rfl
  have HM := hid hM
  clear hN ho TA
  go_enter Tryd.func20, Tryd.ntmps20
  rw [← HM.out]
  clear hM
  go_wp2_with (at_builtin; (refine wpList_append_str_at rfl _ _ 53 9 rfl 5 i0 Tryd.underlying53 Tryd.underlying9 hi5 hz0 hz1 hz2 _ _ _ rfl OW.out M rfl (by unfold maxLen; omega) (by omega) ?_))
  intro v' w2 hown hgrow hat
  have G := hid (Grew.from TW.out (grew_str (l := l) (m := M.data.toList) (by rw [HN.out, size_list, hMs]; exact hown) hgrow (by rw [size_alloc1]; exact hat)))
  clear hown hgrow hat
  go_wp2
  go_ret
  refine ⟨v', rfl, ?_⟩
  have := G.out
  rw [HM.out] at this
  exact this
set_option maxRecDepth 100000 in
set_option maxHeartbeats 4000000 in
theorem show_numG (a2 a3 : Option Addr) (n2 c2 n3 c3 : Nat) (s : ByteArray) (l : Bs) (v : Value) (w : World) (ho : OB w v l) (hl : l.length ≤ 1099511627776) (hs : s.size ≤ 1099511627776) :
    Calls Tryd.prog 20 #[.agg #[.int .i64 3, .string s, .slice a2 n2 c2, .slice a3 n3 c3], v] w fun e w' => ∃ v', e = .returned v' ∧ Grew w w' v v' (l ++ s.data.toList) := by
  obtain ⟨i0, hi5, hz0, hz1, hz2⟩ := info_parts info5b
  obtain ⟨N, hN⟩ : ∃ N, l.length = N := ⟨_, rfl⟩
  have TA := (Touch.refl (fun _ => False) w).alloc (.cells #[.int .i64 3, .string s, .slice a2 n2 c2, .slice a3 n3 c3] 26)
  have OW := hid (show (w.alloc (.cells #[.int .i64 3, .string s, .slice a2 n2 c2, .slice a3 n3 c3] 26)).ownsRow 0 5 1 v N (bv l) from by
    have := ho.kept TA (fun _ _ e => e)
    unfold OB at this
    rw [hN] at this
    exact this)
  have TW := hid TA
  rw [hN] at hl
  have HN := hid hN
  clear hN ho TA
  go_enter Tryd.func20, Tryd.ntmps20
  go_wp2_with (at_builtin; (refine wpList_append_str_at rfl _ _ 53 9 rfl 5 i0 Tryd.underlying53 Tryd.underlying9 hi5 hz0 hz1 hz2 _ _ _ rfl OW.out s rfl (by unfold maxLen; omega) (by omega) ?_))
  intro v' w2 hown hgrow hat
  have G := hid (Grew.from TW.out (grew_str (l := l) (m := s.data.toList) (by rw [HN.out, size_list]; exact hown) hgrow (by rw [size_alloc1]; exact hat)))
  clear hown hgrow hat
  go_wp2
  go_ret
  exact ⟨v', rfl, G.out⟩
set_option maxRecDepth 100000 in
set_option maxHeartbeats 4000000 in
theorem show_textG (a2 a3 : Option Addr) (n2 c2 n3 c3 : Nat) (s : ByteArray) (l : Bs) (v : Value) (w : World) (ht : Tabs w) (ho : OB w v l) (hs : s.size ≤ 1048576) (hl : l.length ≤ 1073741824) :
    Calls Tryd.prog 20 #[.agg #[.int .i64 4, .string s, .slice a2 n2 c2, .slice a3 n3 c3], v] w fun e w' => ∃ v', e = .returned v' ∧ Grew w w' v v' (l ++ quB s) := by
  have TA := hid ((Touch.refl (fun _ => False) w).alloc (.cells #[.int .i64 4, .string s, .slice a2 n2 c2, .slice a3 n3 c3] 26))
  have K := hid (quote_any s l v (w.alloc (.cells #[.int .i64 4, .string s, .slice a2 n2 c2, .slice a3 n3 c3] 26)) (ht.new TA.out) (ho.kept TA.out (fun _ _ e => e)) hs hl)
  clear ht ho
  go_enter Tryd.func20, Tryd.ntmps20
  go_wp2_with fail
  refine K.out.mono ?_
  rintro e w1 ⟨v', rfl, g⟩
  have G := hid (Grew.from TA.out g)
  clear g K TA
  go_wp2
  go_ret
  exact ⟨v', rfl, G.out⟩
set_option maxRecDepth 100000 in
set_option maxHeartbeats 4000000 in
theorem show_row5 (a2 a3 : Option Addr) (n2 c2 n3 c3 : Nat) (X : Bs) (l : Bs) (v : Value) (w : World)
    (KK : Calls Tryd.prog 35 #[.agg #[.int .i64 5, .string ⟨#[]⟩, .slice a2 n2 c2, .slice a3 n3 c3], v, .string ⟨#[91, 93]⟩] (w.alloc (.cells #[.int .i64 5, .string ⟨#[]⟩, .slice a2 n2 c2, .slice a3 n3 c3] 26)) fun e w' => ∃ v', e = .returned v' ∧ Grew (w.alloc (.cells #[.int .i64 5, .string ⟨#[]⟩, .slice a2 n2 c2, .slice a3 n3 c3] 26)) w' v v' (l ++ X)) :
    Calls Tryd.prog 20 #[.agg #[.int .i64 5, .string ⟨#[]⟩, .slice a2 n2 c2, .slice a3 n3 c3], v] w fun e w' => ∃ v', e = .returned v' ∧ Grew w w' v v' (l ++ X) := by
  have TA := hid ((Touch.refl (fun _ => False) w).alloc (.cells #[.int .i64 5, .string ⟨#[]⟩, .slice a2 n2 c2, .slice a3 n3 c3] 26))
  have K := hid KK
  clear KK
  go_enter Tryd.func20, Tryd.ntmps20
  go_wp2_with fail
  refine K.out.mono ?_
  rintro e w1 ⟨v', rfl, g⟩
  have G := hid (Grew.from TA.out g)
  clear g K TA
  go_wp2
  go_ret
  exact ⟨v', rfl, G.out⟩
set_option maxRecDepth 100000 in
set_option maxHeartbeats 4000000 in
theorem show_row6 (a2 a3 : Option Addr) (n2 c2 n3 c3 : Nat) (X : Bs) (l : Bs) (v : Value) (w : World)
    (KK : Calls Tryd.prog 35 #[.agg #[.int .i64 6, .string ⟨#[]⟩, .slice a2 n2 c2, .slice a3 n3 c3], v, .string ⟨#[123, 125]⟩] (w.alloc (.cells #[.int .i64 6, .string ⟨#[]⟩, .slice a2 n2 c2, .slice a3 n3 c3] 26)) fun e w' => ∃ v', e = .returned v' ∧ Grew (w.alloc (.cells #[.int .i64 6, .string ⟨#[]⟩, .slice a2 n2 c2, .slice a3 n3 c3] 26)) w' v v' (l ++ X)) :
    Calls Tryd.prog 20 #[.agg #[.int .i64 6, .string ⟨#[]⟩, .slice a2 n2 c2, .slice a3 n3 c3], v] w fun e w' => ∃ v', e = .returned v' ∧ Grew w w' v v' (l ++ X) := by
  have TA := hid ((Touch.refl (fun _ => False) w).alloc (.cells #[.int .i64 6, .string ⟨#[]⟩, .slice a2 n2 c2, .slice a3 n3 c3] 26))
  have K := hid KK
  clear KK
  go_enter Tryd.func20, Tryd.ntmps20
  go_wp2_with fail
  refine K.out.mono ?_
  rintro e w1 ⟨v', rfl, g⟩
  have G := hid (Grew.from TA.out g)
  clear g K TA
  go_wp2
  go_ret
  exact ⟨v', rfl, G.out⟩
theorem TV.open {w : World} {B : Nat → Prop} {c : Cel} {k : Int} {t : ByteArray} {ks : List ByteArray} {kids : List JV} (h : TV w B c (.node k t ks kids)) : ∃ a2 c2 a3 c3 n2 n3 cs, c = ⟨k, t, .slice a2 n2 c2, .slice a3 n3 c3⟩ ∧ SL w (.slice a2 n2 c2) ks ∧ CL w (.slice a3 n3 c3) cs ∧ cs.length = kids.length ∧ ∀ (i : Nat) (c : Cel) (x : JV), cs[i]? = some c → kids[i]? = some x → TV w B c x := by
  cases h with
  | mk k t v2 v3 ks kids cs h2 b2 h3 b3 hl hk =>
    obtain ⟨a2, c2, hv2⟩ := own_shape h2
    obtain ⟨a3, c3, hv3⟩ := own_shape h3
    subst hv2
    subst hv3
    exact ⟨_, _, _, _, _, _, cs, rfl, h2, h3, hl, hk⟩
theorem kyL_len (l : List (ByteArray × JV)) : (kyL 6 l).length = (l.map Prod.snd).length := by
  unfold kyL
  rw [if_pos rfl, List.length_map, List.length_map]
theorem show_any {n : Nat} {x : JV} (h : OkV n x) : ShowC x := by
  induction h with
  | word n k hk =>
    intro B c l v w tv ht ho hv hlen
    obtain ⟨a2, c2, a3, c3, n2, n3, cs, rfl, _⟩ := tv.open
    rcases hk with rfl | rfl | rfl
    · rw [sh_null]
      exact show_null a2 a3 n2 c2 n3 c3 l v w ho (by omega)
    · rw [sh_false]
      exact show_false a2 a3 n2 c2 n3 c3 l v w ho (by omega)
    · rw [sh_true]
      exact show_true a2 a3 n2 c2 n3 c3 l v w ho (by omega)
  | num n t hn hs =>
    intro B c l v w tv ht ho hv hlen
    obtain ⟨a2, c2, a3, c3, n2, n3, cs, rfl, _⟩ := tv.open
    rw [sh_num]
    exact show_numG a2 a3 n2 c2 n3 c3 t l v w ho (by omega) (by omega)
  | text n t hK =>
    intro B c l v w tv ht ho hv hlen
    obtain ⟨a2, c2, a3, c3, n2, n3, cs, rfl, _⟩ := tv.open
    rw [sh_text]
    exact show_textG a2 a3 n2 c2 n3 c3 t l v w ht ho hK.2 (by omega)
  | row n kd l0 hk hK h5 hO ih =>
    intro B c l v w tv ht ho hv hlen
    obtain ⟨a2, c2, a3, c3, n2, n3, cs, rfl, h2, h3, hl, hkk⟩ := tv.open
    have ihx : ∀ x ∈ l0.map Prod.snd, ShowC x := by
      intro x hx
      obtain ⟨i, hi, rfl⟩ := List.mem_map.1 hx
      exact ih i hi
    rcases hk with rfl | rfl
    · have TA := (Touch.refl (fun _ => False) w).alloc (.cells #[.int .i64 5, .string ⟨#[]⟩, .slice a2 n2 c2, .slice a3 n3 c3] 26)
      have e : shB (.node 5 ⟨#[]⟩ (kyL 5 l0) (l0.map Prod.snd)) = 91 :: (jnB 5 (kyL 5 l0) (shBs (l0.map Prod.snd)) (l0.map Prod.snd).length ++ [93]) := by
        rw [sh_row5, List.length_map, jnB_is]
      have K := showKids_5 a2 a3 n2 c2 n3 c3 (kyL 5 l0) cs (l0.map Prod.snd) B l v (w.alloc (.cells #[.int .i64 5, .string ⟨#[]⟩, .slice a2 n2 c2, .slice a3 n3 c3] 26)) (rowKept h2 TA (fun _ _ e => e)) (rowKept h3 TA (fun _ _ e => e)) hl (fun i c x e1 e2 => (hkk i c x e1 e2).new TA) (ht.new TA) (ho.kept TA (fun _ _ e => e)) hv
        (by rw [e, List.length_cons, List.length_append, List.length_singleton] at hlen; omega) ihx
      rw [← e] at K
      exact show_row5 a2 a3 n2 c2 n3 c3 _ l v w K
    · have TA := (Touch.refl (fun _ => False) w).alloc (.cells #[.int .i64 6, .string ⟨#[]⟩, .slice a2 n2 c2, .slice a3 n3 c3] 26)
      have e : shB (.node 6 ⟨#[]⟩ (kyL 6 l0) (l0.map Prod.snd)) = 123 :: (jnB 6 (kyL 6 l0) (shBs (l0.map Prod.snd)) (l0.map Prod.snd).length ++ [125]) := by
        rw [sh_row6, List.length_map, jnB_is]
      have hks : ∀ x ∈ kyL 6 l0, x.size ≤ 1048576 := by
        intro x hx
        unfold kyL at hx
        rw [if_pos rfl] at hx
        obtain ⟨i, hi, rfl⟩ := List.mem_map.1 hx
        exact (hK i hi).2
      have K := showKids_6 a2 a3 n2 c2 n3 c3 (kyL 6 l0) cs (l0.map Prod.snd) B l v (w.alloc (.cells #[.int .i64 6, .string ⟨#[]⟩, .slice a2 n2 c2, .slice a3 n3 c3] 26)) (rowKept h2 TA (fun _ _ e => e)) (rowKept h3 TA (fun _ _ e => e)) hl (fun i c x e1 e2 => (hkk i c x e1 e2).new TA) (ht.new TA) (ho.kept TA (fun _ _ e => e)) hv
        (kyL_len l0) hks (by rw [e, List.length_cons, List.length_append, List.length_singleton] at hlen; omega) ihx
      rw [← e] at K
      exact show_row6 a2 a3 n2 c2 n3 c3 _ l v w K
/-- Show, of any tree that Parse tells. -/
theorem Show_any {n : Nat} {x : JV} (h : OkV n x) (B : Nat → Prop) (c : Cel) (w : World) (tv : TV w B c x) (ht : Tabs w) (hlen : (shB x).length ≤ 1000000000) :
    Calls Tryd.prog 10 #[c.agg] w fun e w' => e = .returned (.string ⟨(shB x).toArray⟩) ∧ Touch (fun _ => False) w w' := by
  obtain ⟨xk, xt, xa2, xn2, xc2, xa3, xn3, xc3, rfl⟩ := tv.shape
  have TA := hid ((Touch.refl (fun _ => False) w).alloc (.cells #[.int .i64 xk, .string xt, .slice xa2 xn2 xc2, .slice xa3 xn3 xc3] 26))
  have K := hid (show_any h B _ [] (.slice none 0 0) (w.alloc (.cells #[.int .i64 xk, .string xt, .slice xa2 xn2 xc2, .slice xa3 xn3 xc3] 26)) (tv.new TA.out) (ht.new TA.out) (OB.nil _) (fun k e => by cases e) (by simpa using hlen))
  rw [List.nil_append] at K
  have K2 := hid (show Calls Tryd.prog 20 #[.agg #[.int .i64 xk, .string xt, .slice xa2 xn2 xc2, .slice xa3 xn3 xc3], .slice none 0 0] (w.alloc (.cells #[.int .i64 xk, .string xt, .slice xa2 xn2 xc2, .slice xa3 xn3 xc3] 26)) _ from K.out)
  show Calls Tryd.prog 10 #[.agg #[.int .i64 xk, .string xt, .slice xa2 xn2 xc2, .slice xa3 xn3 xc3]] w _
  clear tv ht K
  generalize shB x = X at *
  go_enter Tryd.func10, Tryd.ntmps10
  go_wp2_with fail
  refine K2.out.mono ?_
  rintro e w1 ⟨v', rfl, g⟩
  have hconv := g.own.conv
  have G := hid (TA.out.trans (g.touch.mono (S' := fun _ => False) (fun k _ e => by cases e)) (fun _ _ e => e))
  clear g K2 TA
  go_wp2
  go_ret
  exact ⟨rfl, G.out⟩
end Go.Proofs.YtabhlhgfacpohaaDoor
