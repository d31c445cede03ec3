/- A parser of patterns: an escape; conditions: as told. -/
import Derived.Test.YtdhhcefmmojcmaaGreatDoorM16
import Derived.Test.YtdhhcefmmojcmaaGreatDoorM17
import Derived.Test.YtdhhcefmmojcmaaGreatDoorM18
namespace Go.Proofs.YtdhhcefmmojcmaaGreatDoor
open Go.RowKit
open Go.Lib

/-- What escape and member answer. -/
def EscP (b : Nat) (X : Px) (f : Fl) (vn : Value) (ns : List ByteArray) (op : Nat) (w : World) : PR (List R2 × Option Int × Nat) → Ending → World → Prop
  | .error (c, j), e, w' => e = thrown c (lkR X.P j) ∧ Touch (fun g => g = b) w w'
  | .ok (l, o, k1), e, w' => ∃ v, e = .returned (.tuple #[v, .bool o.isSome]) ∧ w'.ownsRow 0 60 2 v (cnR l).length (flatR (cnR l)) ∧ (∀ g, v.ownBlock = some g → w.heap.size ≤ g) ∧ PS w' b X k1 f vn ns op ∧ Touch (fun g => g = b) w w'
set_option maxRecDepth 100000 in
set_option maxHeartbeats 8000000 in
theorem esc_d (b : Nat) (X : Px) (k0 k : Nat) (f : Fl) (vn : Value) (ns : List ByteArray) (op : Nat) (w : World) (h : PS w b X k f vn ns op) (hX : X.Good) (hk : k ≤ X.R.length) (_hk0 : k0 ≤ X.R.length) (hc : lkR X.R k = 100) :
    Calls Tryz.prog 132 #[.pointer (some ⟨b, 0, none⟩), .int .i64 (k0 : Nat)] w fun e w' => EscP b X f vn ns op w (.ok (lNd, none, k + 1)) e w' := by
  have hk2 : k ≤ 1024 := by have := hX.lenR; omega
  have HK := hid h
  have TK := hid (Touch.refl (fun g => g = b) w)
  clear h hX hk
  go_enter Tryz.func132, Tryz.ntmps132
  go_wp2_with fail
  refine (take_y HK.out (by omega) 100 hc (by decide)).mono ?_
  rintro e w1 ⟨rfl, hp, tt⟩
  replace HK := hid hp
  replace TK := hid (TK.out.trans tt (fun _ _ e => e))
  clear hp tt hc
  go_wp2_with fail
  refine (perl_d w1).mono ?_
  rintro e w2 ⟨v, s, rfl, cs, hs, ow⟩
  have hcn : s = cnR (lNd) := cn_of cs (by simpa using hs)
  obtain ⟨a2, c2, hv, _⟩ := ow.slice
  subst hv
  have O := hid (show w2.ownsRow 0 60 2 (.slice a2 s.length c2) (cnR (lNd)).length (flatR (cnR (lNd))) from by rw [← hcn]; exact ow.own)
  have N := hid (fun g e => Nat.le_trans TK.out.size (ow.new g e))
  replace HK := hid (HK.out.new ow.touch)
  replace TK := hid (TK.out.trans ow.touch (fun _ _ e => e.elim))
  clear ow cs hs hcn
  go_wp2
  refine bodyPost_ret (results_tmp2 rfl _ _ _) rfl ?_
  exact ⟨_, rfl, O.out, N.out, HK.out, TK.out⟩
set_option maxRecDepth 100000 in
set_option maxHeartbeats 8000000 in
theorem esc_D (b : Nat) (X : Px) (k0 k : Nat) (f : Fl) (vn : Value) (ns : List ByteArray) (op : Nat) (w : World) (h : PS w b X k f vn ns op) (hX : X.Good) (hk : k ≤ X.R.length) (_hk0 : k0 ≤ X.R.length) (hc : lkR X.R k = 68) :
    Calls Tryz.prog 132 #[.pointer (some ⟨b, 0, none⟩), .int .i64 (k0 : Nat)] w fun e w' => EscP b X f vn ns op w (.ok (notR lNd, none, k + 1)) e w' := by
  have hk2 : k ≤ 1024 := by have := hX.lenR; omega
  have HK := hid h
  have TK := hid (Touch.refl (fun g => g = b) w)
  clear h hX hk
  go_enter Tryz.func132, Tryz.ntmps132
  go_wp2_with fail
  refine (take_y HK.out (by omega) 68 hc (by decide)).mono ?_
  rintro e w1 ⟨rfl, hp, tt⟩
  replace HK := hid hp
  replace TK := hid (TK.out.trans tt (fun _ _ e => e))
  clear hp tt hc
  go_wp2_with fail
  refine (perl_D w1).mono ?_
  rintro e w2 ⟨v, s, rfl, cs, hs, ow⟩
  have hcn : s = cnR (notR lNd) := by rw [cn_not]; exact not_of cs (by simpa using hs)
  obtain ⟨a2, c2, hv, _⟩ := ow.slice
  subst hv
  have O := hid (show w2.ownsRow 0 60 2 (.slice a2 s.length c2) (cnR (notR lNd)).length (flatR (cnR (notR lNd))) from by rw [← hcn]; exact ow.own)
  have N := hid (fun g e => Nat.le_trans TK.out.size (ow.new g e))
  replace HK := hid (HK.out.new ow.touch)
  replace TK := hid (TK.out.trans ow.touch (fun _ _ e => e.elim))
  clear ow cs hs hcn
  go_wp2
  refine bodyPost_ret (results_tmp2 rfl _ _ _) rfl ?_
  exact ⟨_, rfl, O.out, N.out, HK.out, TK.out⟩
set_option maxRecDepth 100000 in
set_option maxHeartbeats 8000000 in
theorem esc_s (b : Nat) (X : Px) (k0 k : Nat) (f : Fl) (vn : Value) (ns : List ByteArray) (op : Nat) (w : World) (h : PS w b X k f vn ns op) (hX : X.Good) (hk : k ≤ X.R.length) (_hk0 : k0 ≤ X.R.length) (hc : lkR X.R k = 115) :
    Calls Tryz.prog 132 #[.pointer (some ⟨b, 0, none⟩), .int .i64 (k0 : Nat)] w fun e w' => EscP b X f vn ns op w (.ok (lBl, none, k + 1)) e w' := by
  have hk2 : k ≤ 1024 := by have := hX.lenR; omega
  have HK := hid h
  have TK := hid (Touch.refl (fun g => g = b) w)
  clear h hX hk
  go_enter Tryz.func132, Tryz.ntmps132
  go_wp2_with fail
  refine (take_y HK.out (by omega) 115 hc (by decide)).mono ?_
  rintro e w1 ⟨rfl, hp, tt⟩
  replace HK := hid hp
  replace TK := hid (TK.out.trans tt (fun _ _ e => e))
  clear hp tt hc
  go_wp2_with fail
  refine (perl_s w1).mono ?_
  rintro e w2 ⟨v, s, rfl, cs, hs, ow⟩
  have hcn : s = cnR (lBl) := cn_of cs (by simpa using hs)
  obtain ⟨a2, c2, hv, _⟩ := ow.slice
  subst hv
  have O := hid (show w2.ownsRow 0 60 2 (.slice a2 s.length c2) (cnR (lBl)).length (flatR (cnR (lBl))) from by rw [← hcn]; exact ow.own)
  have N := hid (fun g e => Nat.le_trans TK.out.size (ow.new g e))
  replace HK := hid (HK.out.new ow.touch)
  replace TK := hid (TK.out.trans ow.touch (fun _ _ e => e.elim))
  clear ow cs hs hcn
  go_wp2
  refine bodyPost_ret (results_tmp2 rfl _ _ _) rfl ?_
  exact ⟨_, rfl, O.out, N.out, HK.out, TK.out⟩
set_option maxRecDepth 100000 in
set_option maxHeartbeats 8000000 in
theorem esc_S (b : Nat) (X : Px) (k0 k : Nat) (f : Fl) (vn : Value) (ns : List ByteArray) (op : Nat) (w : World) (h : PS w b X k f vn ns op) (hX : X.Good) (hk : k ≤ X.R.length) (_hk0 : k0 ≤ X.R.length) (hc : lkR X.R k = 83) :
    Calls Tryz.prog 132 #[.pointer (some ⟨b, 0, none⟩), .int .i64 (k0 : Nat)] w fun e w' => EscP b X f vn ns op w (.ok (notR lBl, none, k + 1)) e w' := by
  have hk2 : k ≤ 1024 := by have := hX.lenR; omega
  have HK := hid h
  have TK := hid (Touch.refl (fun g => g = b) w)
  clear h hX hk
  go_enter Tryz.func132, Tryz.ntmps132
  go_wp2_with fail
  refine (take_y HK.out (by omega) 83 hc (by decide)).mono ?_
  rintro e w1 ⟨rfl, hp, tt⟩
  replace HK := hid hp
  replace TK := hid (TK.out.trans tt (fun _ _ e => e))
  clear hp tt hc
  go_wp2_with fail
  refine (perl_S w1).mono ?_
  rintro e w2 ⟨v, s, rfl, cs, hs, ow⟩
  have hcn : s = cnR (notR lBl) := by rw [cn_not]; exact not_of cs (by simpa using hs)
  obtain ⟨a2, c2, hv, _⟩ := ow.slice
  subst hv
  have O := hid (show w2.ownsRow 0 60 2 (.slice a2 s.length c2) (cnR (notR lBl)).length (flatR (cnR (notR lBl))) from by rw [← hcn]; exact ow.own)
  have N := hid (fun g e => Nat.le_trans TK.out.size (ow.new g e))
  replace HK := hid (HK.out.new ow.touch)
  replace TK := hid (TK.out.trans ow.touch (fun _ _ e => e.elim))
  clear ow cs hs hcn
  go_wp2
  refine bodyPost_ret (results_tmp2 rfl _ _ _) rfl ?_
  exact ⟨_, rfl, O.out, N.out, HK.out, TK.out⟩
set_option maxRecDepth 100000 in
set_option maxHeartbeats 8000000 in
theorem esc_w (b : Nat) (X : Px) (k0 k : Nat) (f : Fl) (vn : Value) (ns : List ByteArray) (op : Nat) (w : World) (h : PS w b X k f vn ns op) (hX : X.Good) (hk : k ≤ X.R.length) (_hk0 : k0 ≤ X.R.length) (hc : lkR X.R k = 119) :
    Calls Tryz.prog 132 #[.pointer (some ⟨b, 0, none⟩), .int .i64 (k0 : Nat)] w fun e w' => EscP b X f vn ns op w (.ok (lW, none, k + 1)) e w' := by
  have hk2 : k ≤ 1024 := by have := hX.lenR; omega
  have HK := hid h
  have TK := hid (Touch.refl (fun g => g = b) w)
  clear h hX hk
  go_enter Tryz.func132, Tryz.ntmps132
  go_wp2_with fail
  refine (take_y HK.out (by omega) 119 hc (by decide)).mono ?_
  rintro e w1 ⟨rfl, hp, tt⟩
  replace HK := hid hp
  replace TK := hid (TK.out.trans tt (fun _ _ e => e))
  clear hp tt hc
  go_wp2_with fail
  refine (perl_w w1).mono ?_
  rintro e w2 ⟨v, s, rfl, cs, hs, ow⟩
  have hcn : s = cnR (lW) := cn_of cs (by simpa using hs)
  obtain ⟨a2, c2, hv, _⟩ := ow.slice
  subst hv
  have O := hid (show w2.ownsRow 0 60 2 (.slice a2 s.length c2) (cnR (lW)).length (flatR (cnR (lW))) from by rw [← hcn]; exact ow.own)
  have N := hid (fun g e => Nat.le_trans TK.out.size (ow.new g e))
  replace HK := hid (HK.out.new ow.touch)
  replace TK := hid (TK.out.trans ow.touch (fun _ _ e => e.elim))
  clear ow cs hs hcn
  go_wp2
  refine bodyPost_ret (results_tmp2 rfl _ _ _) rfl ?_
  exact ⟨_, rfl, O.out, N.out, HK.out, TK.out⟩
set_option maxRecDepth 100000 in
set_option maxHeartbeats 8000000 in
theorem esc_W (b : Nat) (X : Px) (k0 k : Nat) (f : Fl) (vn : Value) (ns : List ByteArray) (op : Nat) (w : World) (h : PS w b X k f vn ns op) (hX : X.Good) (hk : k ≤ X.R.length) (_hk0 : k0 ≤ X.R.length) (hc : lkR X.R k = 87) :
    Calls Tryz.prog 132 #[.pointer (some ⟨b, 0, none⟩), .int .i64 (k0 : Nat)] w fun e w' => EscP b X f vn ns op w (.ok (notR lW, none, k + 1)) e w' := by
  have hk2 : k ≤ 1024 := by have := hX.lenR; omega
  have HK := hid h
  have TK := hid (Touch.refl (fun g => g = b) w)
  clear h hX hk
  go_enter Tryz.func132, Tryz.ntmps132
  go_wp2_with fail
  refine (take_y HK.out (by omega) 87 hc (by decide)).mono ?_
  rintro e w1 ⟨rfl, hp, tt⟩
  replace HK := hid hp
  replace TK := hid (TK.out.trans tt (fun _ _ e => e))
  clear hp tt hc
  go_wp2_with fail
  refine (perl_W w1).mono ?_
  rintro e w2 ⟨v, s, rfl, cs, hs, ow⟩
  have hcn : s = cnR (notR lW) := by rw [cn_not]; exact not_of cs (by simpa using hs)
  obtain ⟨a2, c2, hv, _⟩ := ow.slice
  subst hv
  have O := hid (show w2.ownsRow 0 60 2 (.slice a2 s.length c2) (cnR (notR lW)).length (flatR (cnR (notR lW))) from by rw [← hcn]; exact ow.own)
  have N := hid (fun g e => Nat.le_trans TK.out.size (ow.new g e))
  replace HK := hid (HK.out.new ow.touch)
  replace TK := hid (TK.out.trans ow.touch (fun _ _ e => e.elim))
  clear ow cs hs hcn
  go_wp2
  refine bodyPost_ret (results_tmp2 rfl _ _ _) rfl ?_
  exact ⟨_, rfl, O.out, N.out, HK.out, TK.out⟩
set_option maxRecDepth 100000 in
set_option maxHeartbeats 8000000 in
theorem esc_p (b : Nat) (X : Px) (k0 k : Nat) (f : Fl) (vn : Value) (ns : List ByteArray) (op : Nat) (w : World) (h : PS w b X k f vn ns op) (hX : X.Good) (hk : k ≤ X.R.length) (hk0 : k0 ≤ X.R.length) (hc : lkR X.R k = 112) :
    Calls Tryz.prog 132 #[.pointer (some ⟨b, 0, none⟩), .int .i64 (k0 : Nat)] w fun e w' => EscP b X f vn ns op w (match namedF X.R tableN k0 false (k + 1) with | .error e => .error e | .ok (l, k1) => .ok (l, none, k1)) e w' := by
  have hk2 : k ≤ 1024 := by have := hX.lenR; omega
  have HK := hid h
  have TK := hid (Touch.refl (fun g => g = b) w)
  have KN := hid (fun w' hp => named_any b X k0 (k + 1) false f vn ns op w' hp hX (lk_is hc (by decide)) hk0)
  clear h hX hk hk0
  obtain ⟨A, hA⟩ : ∃ A, A = namedF X.R tableN k0 false (k + 1) := ⟨_, rfl⟩
  rw [← hA] at KN ⊢
  clear hA
  match A with
  | .error (ec, ej) =>
    go_enter Tryz.func132, Tryz.ntmps132
    go_wp2_with fail
    refine (take_y HK.out (by omega) 112 hc (by decide)).mono ?_
    rintro e w1 ⟨rfl, hp, tt⟩
    replace HK := hid hp
    replace TK := hid (TK.out.trans tt (fun _ _ e => e))
    clear hp tt hc
    have KE := hid (KN.out _ HK.out)
    unfold SetP thrown at KE
    go_wp2_with fail
    refine KE.out.mono ?_
    rintro e w2 ⟨rfl, tt⟩
    replace TK := hid (TK.out.trans tt (fun _ _ e => e))
    clear tt KN KE
    go_wp2
    refine ⟨rfl, ?_⟩
    exact ⟨rfl, TK.out⟩
  | .ok (l, k1) =>
    go_enter Tryz.func132, Tryz.ntmps132
    go_wp2_with fail
    refine (take_y HK.out (by omega) 112 hc (by decide)).mono ?_
    rintro e w1 ⟨rfl, hp, tt⟩
    replace HK := hid hp
    replace TK := hid (TK.out.trans tt (fun _ _ e => e))
    clear hp tt hc
    have KE := hid (KN.out _ HK.out)
    unfold SetP at KE
    go_wp2_with fail
    refine KE.out.mono ?_
    rintro e w2 ⟨v, rfl, ho, hn, hp, tt⟩
    obtain ⟨a2, c2, hv⟩ := own_shape ho
    subst hv
    have O := hid ho
    have N := hid (fun g e => Nat.le_trans TK.out.size (hn g e))
    replace HK := hid hp
    replace TK := hid (TK.out.trans tt (fun _ _ e => e))
    clear ho hn hp tt KN KE
    go_wp2
    refine bodyPost_ret (results_tmp2 rfl _ _ _) rfl ?_
    exact ⟨_, rfl, O.out, N.out, HK.out, TK.out⟩
set_option maxRecDepth 100000 in
set_option maxHeartbeats 8000000 in
theorem esc_P (b : Nat) (X : Px) (k0 k : Nat) (f : Fl) (vn : Value) (ns : List ByteArray) (op : Nat) (w : World) (h : PS w b X k f vn ns op) (hX : X.Good) (hk : k ≤ X.R.length) (hk0 : k0 ≤ X.R.length) (hc : lkR X.R k = 80) :
    Calls Tryz.prog 132 #[.pointer (some ⟨b, 0, none⟩), .int .i64 (k0 : Nat)] w fun e w' => EscP b X f vn ns op w (match namedF X.R tableN k0 true (k + 1) with | .error e => .error e | .ok (l, k1) => .ok (l, none, k1)) e w' := by
  have hk2 : k ≤ 1024 := by have := hX.lenR; omega
  have HK := hid h
  have TK := hid (Touch.refl (fun g => g = b) w)
  have KN := hid (fun w' hp => named_any b X k0 (k + 1) true f vn ns op w' hp hX (lk_is hc (by decide)) hk0)
  clear h hX hk hk0
  obtain ⟨A, hA⟩ : ∃ A, A = namedF X.R tableN k0 true (k + 1) := ⟨_, rfl⟩
  rw [← hA] at KN ⊢
  clear hA
  match A with
  | .error (ec, ej) =>
    go_enter Tryz.func132, Tryz.ntmps132
    go_wp2_with fail
    refine (take_y HK.out (by omega) 80 hc (by decide)).mono ?_
    rintro e w1 ⟨rfl, hp, tt⟩
    replace HK := hid hp
    replace TK := hid (TK.out.trans tt (fun _ _ e => e))
    clear hp tt hc
    have KE := hid (KN.out _ HK.out)
    unfold SetP thrown at KE
    go_wp2_with fail
    refine KE.out.mono ?_
    rintro e w2 ⟨rfl, tt⟩
    replace TK := hid (TK.out.trans tt (fun _ _ e => e))
    clear tt KN KE
    go_wp2
    refine ⟨rfl, ?_⟩
    exact ⟨rfl, TK.out⟩
  | .ok (l, k1) =>
    go_enter Tryz.func132, Tryz.ntmps132
    go_wp2_with fail
    refine (take_y HK.out (by omega) 80 hc (by decide)).mono ?_
    rintro e w1 ⟨rfl, hp, tt⟩
    replace HK := hid hp
    replace TK := hid (TK.out.trans tt (fun _ _ e => e))
    clear hp tt hc
    have KE := hid (KN.out _ HK.out)
    unfold SetP at KE
    go_wp2_with fail
    refine KE.out.mono ?_
    rintro e w2 ⟨v, rfl, ho, hn, hp, tt⟩
    obtain ⟨a2, c2, hv⟩ := own_shape ho
    subst hv
    have O := hid ho
    have N := hid (fun g e => Nat.le_trans TK.out.size (hn g e))
    replace HK := hid hp
    replace TK := hid (TK.out.trans tt (fun _ _ e => e))
    clear ho hn hp tt KN KE
    go_wp2
    refine bodyPost_ret (results_tmp2 rfl _ _ _) rfl ?_
    exact ⟨_, rfl, O.out, N.out, HK.out, TK.out⟩
set_option maxRecDepth 100000 in
set_option maxHeartbeats 8000000 in
theorem esc_x (b : Nat) (X : Px) (k0 k : Nat) (f : Fl) (vn : Value) (ns : List ByteArray) (op : Nat) (w : World) (h : PS w b X k f vn ns op) (hX : X.Good) (hk : k ≤ X.R.length) (hk0 : k0 ≤ X.R.length) (hc : lkR X.R k = 120) :
    Calls Tryz.prog 132 #[.pointer (some ⟨b, 0, none⟩), .int .i64 (k0 : Nat)] w fun e w' => EscP b X f vn ns op w (match codeF X.R k0 (k + 1) with | .error e => .error e | .ok (n, k1) => .ok ([((n : Int), (n : Int))], some (n : Int), k1)) e w' := by
  have hk2 : k ≤ 1024 := by have := hX.lenR; omega
  have HK := hid h
  have TK := hid (Touch.refl (fun g => g = b) w)
  have KN := hid (fun w' hp => code_any b X k0 (k + 1) f vn ns op w' hp hX (lk_is hc (by decide)) hk0)
  clear h hX hk hk0
  obtain ⟨A, hA⟩ : ∃ A, A = codeF X.R k0 (k + 1) := ⟨_, rfl⟩
  rw [← hA] at KN ⊢
  clear hA
  match A with
  | .error (ec, ej) =>
    go_enter Tryz.func132, Tryz.ntmps132
    go_wp2_with fail
    refine (take_y HK.out (by omega) 120 hc (by decide)).mono ?_
    rintro e w1 ⟨rfl, hp, tt⟩
    replace HK := hid hp
    replace TK := hid (TK.out.trans tt (fun _ _ e => e))
    clear hp tt hc
    have KE := hid (KN.out _ HK.out)
    unfold CodP thrown at KE
    go_wp2_with fail
    refine KE.out.mono ?_
    rintro e w2 ⟨rfl, tt⟩
    replace TK := hid (TK.out.trans tt (fun _ _ e => e))
    clear tt KN KE
    go_wp2
    refine ⟨rfl, ?_⟩
    exact ⟨rfl, TK.out⟩
  | .ok (n, k1) =>
    go_enter Tryz.func132, Tryz.ntmps132
    go_wp2_with fail
    refine (take_y HK.out (by omega) 120 hc (by decide)).mono ?_
    rintro e w1 ⟨rfl, hp, tt⟩
    replace HK := hid hp
    replace TK := hid (TK.out.trans tt (fun _ _ e => e))
    clear hp tt hc
    have KE := hid (KN.out _ HK.out)
    unfold CodP at KE
    go_wp2_with fail
    refine KE.out.mono ?_
    rintro e w2 ⟨rfl, hp, tt⟩
    replace HK := hid hp
    replace TK := hid (TK.out.trans tt (fun _ _ e => e))
    clear hp tt KN KE
    go_wp2_with fail
    refine (only_any (n : Int) w2).mono ?_
    rintro e w3 ⟨v, rfl, ow⟩
    obtain ⟨a2, c2, hv, _⟩ := ow.slice
    subst hv
    have O := hid ow.own
    have N := hid (fun g e => Nat.le_trans TK.out.size (ow.new g e))
    replace HK := hid (HK.out.new ow.touch)
    replace TK := hid (TK.out.trans ow.touch (fun _ _ e => e.elim))
    clear ow
    go_wp2
    refine bodyPost_ret (results_tmp2 rfl _ _ _) rfl ?_
    exact ⟨_, rfl, O.out, N.out, HK.out, TK.out⟩
set_option maxRecDepth 100000 in
set_option maxHeartbeats 8000000 in
theorem esc_n (b : Nat) (X : Px) (k0 k : Nat) (f : Fl) (vn : Value) (ns : List ByteArray) (op : Nat) (w : World) (h : PS w b X k f vn ns op) (hX : X.Good) (hk : k ≤ X.R.length) (_hk0 : k0 ≤ X.R.length) (hc : lkR X.R k = 110) :
    Calls Tryz.prog 132 #[.pointer (some ⟨b, 0, none⟩), .int .i64 (k0 : Nat)] w fun e w' => EscP b X f vn ns op w (.ok ([(10, 10)], some 10, k + 1)) e w' := by
  have hk2 : k ≤ 1024 := by have := hX.lenR; omega
  have HK := hid h
  have TK := hid (Touch.refl (fun g => g = b) w)
  clear h hX hk
  go_enter Tryz.func132, Tryz.ntmps132
  go_wp2_with fail
  refine (take_y HK.out (by omega) 110 hc (by decide)).mono ?_
  rintro e w1 ⟨rfl, hp, tt⟩
  replace HK := hid hp
  replace TK := hid (TK.out.trans tt (fun _ _ e => e))
  clear hp tt hc
  go_wp2_with fail
  refine (only_any 10 w1).mono ?_
  rintro e w2 ⟨v, rfl, ow⟩
  obtain ⟨a2, c2, hv, _⟩ := ow.slice
  subst hv
  have O := hid ow.own
  have N := hid (fun g e => Nat.le_trans TK.out.size (ow.new g e))
  replace HK := hid (HK.out.new ow.touch)
  replace TK := hid (TK.out.trans ow.touch (fun _ _ e => e.elim))
  clear ow
  go_wp2
  refine bodyPost_ret (results_tmp2 rfl _ _ _) rfl ?_
  exact ⟨_, rfl, O.out, N.out, HK.out, TK.out⟩
set_option maxRecDepth 100000 in
set_option maxHeartbeats 8000000 in
theorem esc_t (b : Nat) (X : Px) (k0 k : Nat) (f : Fl) (vn : Value) (ns : List ByteArray) (op : Nat) (w : World) (h : PS w b X k f vn ns op) (hX : X.Good) (hk : k ≤ X.R.length) (_hk0 : k0 ≤ X.R.length) (hc : lkR X.R k = 116) :
    Calls Tryz.prog 132 #[.pointer (some ⟨b, 0, none⟩), .int .i64 (k0 : Nat)] w fun e w' => EscP b X f vn ns op w (.ok ([(9, 9)], some 9, k + 1)) e w' := by
  have hk2 : k ≤ 1024 := by have := hX.lenR; omega
  have HK := hid h
  have TK := hid (Touch.refl (fun g => g = b) w)
  clear h hX hk
  go_enter Tryz.func132, Tryz.ntmps132
  go_wp2_with fail
  refine (take_y HK.out (by omega) 116 hc (by decide)).mono ?_
  rintro e w1 ⟨rfl, hp, tt⟩
  replace HK := hid hp
  replace TK := hid (TK.out.trans tt (fun _ _ e => e))
  clear hp tt hc
  go_wp2_with fail
  refine (only_any 9 w1).mono ?_
  rintro e w2 ⟨v, rfl, ow⟩
  obtain ⟨a2, c2, hv, _⟩ := ow.slice
  subst hv
  have O := hid ow.own
  have N := hid (fun g e => Nat.le_trans TK.out.size (ow.new g e))
  replace HK := hid (HK.out.new ow.touch)
  replace TK := hid (TK.out.trans ow.touch (fun _ _ e => e.elim))
  clear ow
  go_wp2
  refine bodyPost_ret (results_tmp2 rfl _ _ _) rfl ?_
  exact ⟨_, rfl, O.out, N.out, HK.out, TK.out⟩
set_option maxRecDepth 100000 in
set_option maxHeartbeats 8000000 in
theorem esc_r (b : Nat) (X : Px) (k0 k : Nat) (f : Fl) (vn : Value) (ns : List ByteArray) (op : Nat) (w : World) (h : PS w b X k f vn ns op) (hX : X.Good) (hk : k ≤ X.R.length) (_hk0 : k0 ≤ X.R.length) (hc : lkR X.R k = 114) :
    Calls Tryz.prog 132 #[.pointer (some ⟨b, 0, none⟩), .int .i64 (k0 : Nat)] w fun e w' => EscP b X f vn ns op w (.ok ([(13, 13)], some 13, k + 1)) e w' := by
  have hk2 : k ≤ 1024 := by have := hX.lenR; omega
  have HK := hid h
  have TK := hid (Touch.refl (fun g => g = b) w)
  clear h hX hk
  go_enter Tryz.func132, Tryz.ntmps132
  go_wp2_with fail
  refine (take_y HK.out (by omega) 114 hc (by decide)).mono ?_
  rintro e w1 ⟨rfl, hp, tt⟩
  replace HK := hid hp
  replace TK := hid (TK.out.trans tt (fun _ _ e => e))
  clear hp tt hc
  go_wp2_with fail
  refine (only_any 13 w1).mono ?_
  rintro e w2 ⟨v, rfl, ow⟩
  obtain ⟨a2, c2, hv, _⟩ := ow.slice
  subst hv
  have O := hid ow.own
  have N := hid (fun g e => Nat.le_trans TK.out.size (ow.new g e))
  replace HK := hid (HK.out.new ow.touch)
  replace TK := hid (TK.out.trans ow.touch (fun _ _ e => e.elim))
  clear ow
  go_wp2
  refine bodyPost_ret (results_tmp2 rfl _ _ _) rfl ?_
  exact ⟨_, rfl, O.out, N.out, HK.out, TK.out⟩
set_option maxRecDepth 100000 in
set_option maxHeartbeats 8000000 in
theorem esc_f (b : Nat) (X : Px) (k0 k : Nat) (f : Fl) (vn : Value) (ns : List ByteArray) (op : Nat) (w : World) (h : PS w b X k f vn ns op) (hX : X.Good) (hk : k ≤ X.R.length) (_hk0 : k0 ≤ X.R.length) (hc : lkR X.R k = 102) :
    Calls Tryz.prog 132 #[.pointer (some ⟨b, 0, none⟩), .int .i64 (k0 : Nat)] w fun e w' => EscP b X f vn ns op w (.ok ([(12, 12)], some 12, k + 1)) e w' := by
  have hk2 : k ≤ 1024 := by have := hX.lenR; omega
  have HK := hid h
  have TK := hid (Touch.refl (fun g => g = b) w)
  clear h hX hk
  go_enter Tryz.func132, Tryz.ntmps132
  go_wp2_with fail
  refine (take_y HK.out (by omega) 102 hc (by decide)).mono ?_
  rintro e w1 ⟨rfl, hp, tt⟩
  replace HK := hid hp
  replace TK := hid (TK.out.trans tt (fun _ _ e => e))
  clear hp tt hc
  go_wp2_with fail
  refine (only_any 12 w1).mono ?_
  rintro e w2 ⟨v, rfl, ow⟩
  obtain ⟨a2, c2, hv, _⟩ := ow.slice
  subst hv
  have O := hid ow.own
  have N := hid (fun g e => Nat.le_trans TK.out.size (ow.new g e))
  replace HK := hid (HK.out.new ow.touch)
  replace TK := hid (TK.out.trans ow.touch (fun _ _ e => e.elim))
  clear ow
  go_wp2
  refine bodyPost_ret (results_tmp2 rfl _ _ _) rfl ?_
  exact ⟨_, rfl, O.out, N.out, HK.out, TK.out⟩
set_option maxRecDepth 100000 in
set_option maxHeartbeats 8000000 in
theorem esc_v (b : Nat) (X : Px) (k0 k : Nat) (f : Fl) (vn : Value) (ns : List ByteArray) (op : Nat) (w : World) (h : PS w b X k f vn ns op) (hX : X.Good) (hk : k ≤ X.R.length) (_hk0 : k0 ≤ X.R.length) (hc : lkR X.R k = 118) :
    Calls Tryz.prog 132 #[.pointer (some ⟨b, 0, none⟩), .int .i64 (k0 : Nat)] w fun e w' => EscP b X f vn ns op w (.ok ([(11, 11)], some 11, k + 1)) e w' := by
  have hk2 : k ≤ 1024 := by have := hX.lenR; omega
  have HK := hid h
  have TK := hid (Touch.refl (fun g => g = b) w)
  clear h hX hk
  go_enter Tryz.func132, Tryz.ntmps132
  go_wp2_with fail
  refine (take_y HK.out (by omega) 118 hc (by decide)).mono ?_
  rintro e w1 ⟨rfl, hp, tt⟩
  replace HK := hid hp
  replace TK := hid (TK.out.trans tt (fun _ _ e => e))
  clear hp tt hc
  go_wp2_with fail
  refine (only_any 11 w1).mono ?_
  rintro e w2 ⟨v, rfl, ow⟩
  obtain ⟨a2, c2, hv, _⟩ := ow.slice
  subst hv
  have O := hid ow.own
  have N := hid (fun g e => Nat.le_trans TK.out.size (ow.new g e))
  replace HK := hid (HK.out.new ow.touch)
  replace TK := hid (TK.out.trans ow.touch (fun _ _ e => e.elim))
  clear ow
  go_wp2
  refine bodyPost_ret (results_tmp2 rfl _ _ _) rfl ?_
  exact ⟨_, rfl, O.out, N.out, HK.out, TK.out⟩
end Go.Proofs.YtdhhcefmmojcmaaGreatDoor
