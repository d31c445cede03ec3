/- TopClasses' walk; condition: its lists lie in memory. -/
import Derived.Test.YtdhhcefmmojcmaaGreatDoorNZk
import Derived.Test.YtdhhcefmmojcmaaGreatDoorZr
import Derived.Test.YtdhhcefmmojcmaaGreatDoorSm
namespace Go.Proofs.YtdhhcefmmojcmaaGreatDoor
open Go.RowKit
open Go.Lib

/-- Bytes that lie somewhere in a block. -/
def Ib (w : World) (a : Option Addr) (l : List UInt8) : Prop := l = [] ∨ ∃ b o, a = some ⟨b, o, none⟩ ∧ b < w.heap.size ∧ ∀ i (h : i < l.length), w.cell? ⟨b, o + i, none⟩ = some (.int .u8 (l[i].toNat : Int))
theorem Ib.new {w w' : World} {a : Option Addr} {l : List UInt8} (h : Ib w a l) (t : Touch (fun _ => False) w w') : Ib w' a l := by
  rcases h with h | ⟨b, o, rfl, hb, hc⟩
  · exact .inl h
  · exact .inr ⟨b, o, rfl, Nat.lt_of_lt_of_le hb t.size, fun i hi => (t.cell (p := ⟨b, o + i, none⟩) hb id).trans (hc i hi)⟩
theorem ab_pat : patF [91, 97, 98, 93] tableN fl0 = .ok (.cls fl0 (cnR ([(97, 97)] ++ [(98, 98)])), [⟨#[]⟩]) := by kernel_rfl
theorem ab_prs : prsR ⟨#[91, 97, 98, 93]⟩ fl0 = .ok (.cls fl0 (cnR ([(97, 97)] ++ [(98, 98)])), [⟨#[]⟩]) := by
  obtain ⟨h1, h2⟩ := asc_lays [91, 97, 98, 93] (by decide)
  rw [show (⟨#[91, 97, 98, 93]⟩ : ByteArray) = bytesI [91, 97, 98, 93] from rfl, prs_asc fl0 (by decide) h1 h2 (by decide), ab_pat]
theorem ab_has : hasB 98 (cnR ([(97, 97)] ++ [(98, 98)])) = true ∧ hasB 99 (cnR ([(97, 97)] ++ [(98, 98)])) = false := by
  refine ⟨hasB_iff.2 (((cn_good _).2 98).2 ⟨by omega, (98, 98), by simp, by decide, by decide⟩), ?_⟩
  cases e : hasB 99 (cnR ([(97, 97)] ++ [(98, 98)])) with
  | false => rfl
  | true =>
    obtain ⟨r, hr, h1, h2⟩ := (((cn_good _).2 99).1 (hasB_iff.1 e)).2
    simp at hr
    rcases hr with rfl | rfl
    · simp at h2
    · simp at h2
/-- Where the making of a class is: the text, the set, the count. -/
structure Mk1 (w0 : World) (hd : List Int) (ts : List Tok) (s : List R2) (a : Option Addr) (wq : World) : Prop where
  ok : ∀ t ∈ ts, tokOk t
  can : Canon s
  is : ∀ x, In x s ↔ (0 ≤ x ∧ x ≤ 1114111) ∧ In x (flatS ts)
  own : ∃ c, SR wq (.slice a s.length c) s
  touch : Touch (fun _ => False) w0 wq
theorem Mk1.rg {w0 : World} {hd : List Int} {ts : List Tok} {s : List R2} {a : Option Addr} {wq : World} (h : Mk1 w0 hd ts s a wq) : Rg wq a s := by
  obtain ⟨c, h⟩ := h.own
  exact h.rg.1
theorem Mk1.still {w0 wq w' : World} {hd : List Int} {ts : List Tok} {s : List R2} {a : Option Addr} (h : Mk1 w0 hd ts s a wq) (t : Touch (fun _ => False) wq w') : Mk1 w0 hd ts s a w' := ⟨h.ok, h.can, h.is, by
  obtain ⟨c, hc⟩ := h.own
  exact ⟨c, rowKept hc t (fun _ _ e => e)⟩, h.touch.trans t (fun _ _ e => e)⟩
theorem perl_tok (c : Nat) (h : (perlS c).isSome = true) (w : World) : Calls Tryz.prog 23 #[.int .u8 (c : Nat)] w fun e w' => ∃ v s, e = .returned (.tuple #[v, .bool true]) ∧ Canon s ∧ (∀ x, In x s ↔ (0 ≤ x ∧ x ≤ 1114111) ∧ In x (tokS (.prl c))) ∧ OwE w w' 60 v s := by
  have pos : ∀ (c : Nat) (l : List R2), Perls c l false → tokS (.prl c) = l → Calls Tryz.prog 23 #[.int .u8 (c : Nat)] w fun e w' => ∃ v s, e = .returned (.tuple #[v, .bool true]) ∧ Canon s ∧ (∀ x, In x s ↔ (0 ≤ x ∧ x ≤ 1114111) ∧ In x (tokS (.prl c))) ∧ OwE w w' 60 v s := fun c l hp he => by
    rw [he]
    refine (hp w).mono ?_
    rintro e w' ⟨v, s, h1, h2, h3, h4⟩
    exact ⟨v, s, h1, h2, fun x => by rw [h3 x, if_neg (by decide)], h4⟩
  have neg : ∀ (c : Nat) (l : List R2), Perls c l true → tokS (.prl c) = notR l → Calls Tryz.prog 23 #[.int .u8 (c : Nat)] w fun e w' => ∃ v s, e = .returned (.tuple #[v, .bool true]) ∧ Canon s ∧ (∀ x, In x s ↔ (0 ≤ x ∧ x ≤ 1114111) ∧ In x (tokS (.prl c))) ∧ OwE w w' 60 v s := fun c l hp he => by
    rw [he]
    refine (hp w).mono ?_
    rintro e w' ⟨v, s, h1, h2, h3, h4⟩
    refine ⟨v, s, h1, h2, fun x => ?_, h4⟩
    rw [h3 x, if_pos rfl, (not_good2 l).2]
    exact ⟨fun h => ⟨h.1, h⟩, fun h => h.2⟩
  rcases perl_is h with rfl | rfl | rfl | rfl | rfl | rfl
  · exact pos 100 lNd perl_d rfl
  · exact neg 68 lNd perl_D rfl
  · exact pos 115 lBl perl_s rfl
  · exact neg 83 lBl perl_S rfl
  · exact pos 119 lW perl_w rfl
  · exact neg 87 lW perl_W rfl
theorem perl_no (c : Nat) (h : ¬ (perlS c).isSome = true) (w : World) : Calls Tryz.prog 23 #[.int .u8 (c : Nat)] w fun e w' => e = .returned (.tuple #[.slice none 0 0, .bool false]) ∧ w' = w := by
  have hne : ∀ k : Nat, (perlS k).isSome = true → (c : Int) ≠ (k : Int) := fun k hk e => by
    have : c = k := by omega
    rw [this] at h
    exact h hk
  exact perl_none (c : Int) w (hne 100 rfl) (hne 115 rfl) (hne 119 rfl) (hne 68 rfl) (hne 83 rfl) (hne 87 rfl)
structure Mk2 (w0 : World) (s : List R2) (a : Option Addr) (wq : World) : Prop where
  can : Canon s
  own : ∃ c, SR wq (.slice a s.length c) s
  touch : Touch (fun _ => False) w0 wq
theorem Mk2.rg {w0 : World} {s : List R2} {a : Option Addr} {wq : World} (h : Mk2 w0 s a wq) : Rg wq a s := by
  obtain ⟨c, h⟩ := h.own
  exact h.rg.1
theorem flat_snoc (ts : List Tok) (t : Tok) : flatL (ts ++ [t]) = flatL ts ++ tokL t ∧ flatS (ts ++ [t]) = flatS ts ++ tokS t := by simp [flatL, flatS]
theorem txt_size (hd : List Int) (ts : List Tok) (ho : ∀ t ∈ ts, tokOk t) (h1 : hd.length ≤ 2) (h2 : ts.length ≤ 60) : (bytesI (hd ++ flatL ts)).size ≤ 700 := by
  have := (toks_asc ts ho).2
  have e : (bytesI (hd ++ flatL ts)).size = (hd ++ flatL ts).length := by simp [bytesI, ByteArray.size]
  rw [e, List.length_append]
  omega
set_option maxRecDepth 100000 in
set_option maxHeartbeats 16000000 in
theorem classes_f (L : List Int) (B : List UInt8) (al ab : Option Addr) (cl cb : Nat) (w : World) (hL : Io w al L) (hB : Ib w ab B) (ht : TabsK w) (hx : Sx w) (h7 : 7 ≤ w.heap.size) :
    Calls Tryz.prog 10 #[.slice al L.length cl, .slice ab B.length cb, .bool false] w fun e w' => e = .returned (.bool true) ∧ Touch (fun _ => False) w w' := by
  obtain ⟨hd, hhd⟩ : ∃ hd, hd = ([91] : List Int) := ⟨_, rfl⟩
  have KP := hid (fun (s : ByteArray) (wq : World) (t : Touch (fun _ => False) w wq) => parse_any s fl0 wq (ht.new t) (hx.new t) (Nat.le_trans h7 t.size))
  have KP1 := hid (KP.out ⟨#[91, 97, 98, 93]⟩ w (Touch.refl _ _))
  rw [ab_prs] at KP1
  have HAB := hid ab_has
  have HCN := hid (cn_good ([(97, 97)] ++ [(98, 98)])).1
  generalize cnR ([(97, 97)] ++ [(98, 98)]) = S1 at *
  unfold fl0 PrsP at KP1
  simp only at KP1
  have HLI := hid hL
  have HBI := hid hB
  clear ht hx h7 hL hB
  go_enter Tryz.func10, Tryz.ntmps10
  go_wp2_with fail
  refine KP1.out.mono ?_
  rintro e w1 ⟨c, an, nn, cn, rfl, ht1, hs1, hn1, t1⟩
  have T1 := hid t1
  have e1 := ht1.inv.1
  have sr := ht1.inv.2.1
  obtain ⟨ck, sa, sn, sc, fo, mi, ma, la, ca, nm, ka, kn, kc⟩ := c
  simp only at e1 sr
  obtain ⟨rfl, rfl, rfl, rfl, rfl, rfl, rfl⟩ := e1
  have RG1 := hid sr.rg.1
  have HSN := hid sr.rg.2
  unfold Cel.arr
  clear t1 KP1 ht1 hs1 hn1 sr
  go_upto_region 2 with fail
  have HK := kept2 w1 #[.int .i64 1, .slice sa sn sc, .bool false, .int .i64 0, .int .i64 0, .bool false, .int .i64 0, .string ⟨#[]⟩, .slice ka kn kc, .slice an nn cn] #[.int .i64 0, .int .i64 0]
  generalize (w1.alloc (.cells #[.int .i64 1, .slice sa sn sc, .bool false, .int .i64 0, .int .i64 0, .bool false, .int .i64 0, .string ⟨#[]⟩, .slice ka kn kc, .slice an nn cn] 31)).alloc (.cells #[.int .i64 0, .int .i64 0] 34) = w2 at *
  obtain ⟨hp2, hq2, t2⟩ := HK
  have T2 := hid (T1.out.trans t2 (fun _ _ e => e))
  have RG2 := hid (RG1.out.kept t2 (fun _ _ _ _ e => e))
  obtain ⟨p, hpe⟩ : ∃ p, p = w1.heap.size := ⟨_, rfl⟩
  have HPL := hid (show w.heap.size ≤ p from by rw [hpe]; exact T1.out.size)
  rw [← hpe] at hp2 hq2 ⊢
  clear hpe T1 t2 RG1
  have P2 := hid hp2
  have Q2 := hid hq2
  clear hp2 hq2
  have KH := hid (fun (wq : World) (t : Touch (fun _ => False) w2 wq) (r : Int) => has_says sa sc S1 r wq (RG2.out.kept t (fun _ _ _ _ e => e)) HCN.out)
  rw [← HSN.out] at KH
  have c1 : w2.cell? ⟨p, 1, none⟩ = some (.slice sa sn sc) := cell_of P2.out 1 _ rfl
  have KH1 := hid (KH.out w2 (Touch.refl _ _) 98)
  rw [HAB.out.1] at KH1
  go_wp2_with (first | refine wpList_load_row rfl 34 _ rfl (p + 1) rfl 34 _ (0, 0) _ Q2.out Tryz.underlying34 rfl info34 ?_ | fail)
  refine KH1.out.mono ?_
  rintro e w3 ⟨rfl, t3⟩
  have T3 := hid (T2.out.trans t3 (fun _ _ e => e))
  have KH2 := hid (KH.out w3 t3 99)
  rw [HAB.out.2] at KH2
  have U3 := hid t3
  have d1 : w3.cell? ⟨p, 1, none⟩ = some (.slice sa sn sc) := (t3.cell (p := ⟨p, 1, none⟩) (lt_of_block P2.out) id).trans c1
  clear t3 KH1 T2 KH c1
  go_wp2_with fail
  refine KH2.out.mono ?_
  rintro e w4 ⟨rfl, t4⟩
  have T4 := hid (T3.out.trans t4 (fun _ _ e => e))
  have U4 := hid (U3.out.trans t4 (fun _ _ e => e))
  have P4 := hid ((U4.out.block p (lt_of_block P2.out) id).trans P2.out)
  have Q4 := hid ((U4.out.block (p + 1) (lt_of_block Q2.out) id).trans Q2.out)
  clear t4 KH2 T3 U3 d1 P2 Q2 RG2 HSN HAB HCN U4
  go_upto_region 9 with fail
  have HI4 := hid (HLI.out.new T4.out)
  rw [show (⟨#[91]⟩ : ByteArray) = bytesI (hd ++ flatL []) from by rw [hhd]; rfl]
  have HHD := hid hhd
  clear hhd
  go_upto_region 10 with fail
  go_loopg [9, 10, 11, 12] 40 (fun gk v9 v10 v11 v12 wq => ∃ (i : Nat) (ts : List Tok) (s : List R2) (a0 : Option Addr) (c0 : Nat), i + gk = 40 ∧ v12 = .int .i64 (i : Nat) ∧ v9 = .string (bytesI (hd ++ flatL ts)) ∧ v10 = .slice a0 s.length c0 ∧ v11 = .int .i64 (ts.length : Nat) ∧ ts.length ≤ i ∧ Hid (Mk1 w4 hd ts s a0 wq))
  case atStart => exact ⟨0, [], [], none, 0, rfl, rfl, rfl, rfl, rfl, Nat.le_refl _, hid ⟨fun t ht => by simp at ht, ⟨fun r hr => by simp at hr, List.Pairwise.nil⟩, fun x => by simp [In, flatS], ⟨0, sr_nil _⟩, Touch.refl _ _⟩⟩
  case round =>
    obtain ⟨i, ts, s, a0, c0, hgk, rfl, rfl, rfl, rfl, hti, HM⟩ := hrel
    obtain ⟨Y, hY⟩ : ∃ Y : Bool, Y = decide (i < L.length ∧ i < 40) := ⟨_, rfl⟩
    have HY := hid hY
    clear hY
    go_upto_region 10 with fail
    go_cut [48] (fun v wd => v = .bool Y ∧ wr = wd)
    case first =>
      by_cases h1 : i < L.length
      · have h1I : (i : Int) < (L.length : Int) := by omega
        by_cases h2 : i < 40
        · have h2I : (i : Int) < 40 := by omega
          have E := hid (show Y = true from by rw [HY.out]; exact decide_eq_true ⟨h1, h2⟩)
          go_wp2
          go_meet
          case rel => exact ⟨by rw [E.out], rfl⟩
        · have h2I : ¬ (i : Int) < 40 := by omega
          have E := hid (show Y = false from by rw [HY.out]; exact decide_eq_false (fun h => h2 h.2))
          go_wp2
          go_meet
          case rel => exact ⟨by rw [E.out], rfl⟩
      · have h1I : ¬ (i : Int) < (L.length : Int) := by omega
        have E := hid (show Y = false from by rw [HY.out]; exact decide_eq_false (fun h => h1 h.1))
        go_wp2
        go_meet
        case rel => exact ⟨by rw [E.out], rfl⟩
    obtain ⟨rfl, rfl⟩ := hcut
    cases Y with
    | true =>
      obtain ⟨h1, h2⟩ := of_decide_eq_true HY.out.symm
      have hIr := hid (HI4.out.new HM.out.touch)
      obtain ⟨b, o, ha, hcell⟩ : ∃ b o, al = some ⟨b, o, none⟩ ∧ ∀ i (h : i < L.length), wr.cell? ⟨b, o + i, none⟩ = some (.int .i64 L[i]) := by
        rcases hIr.out with h | h
        · rw [h] at h1; simp at h1
        · exact h
      subst ha
      have d0 := hcell i h1
      obtain ⟨r, hr⟩ : ∃ r, r = L[i] := ⟨_, rfl⟩
      rw [← hr] at d0
      clear hr hcell hIr HY
      have h1I : (i : Int) < (L.length : Int) := by omega
      by_cases hin : 0 ≤ r ∧ r ≤ 1114111
      · obtain ⟨n, rfl⟩ := Int.eq_ofNat_of_zero_le hin.1
        have hn : n ≤ 1114111 := by omega
        have g1 : ¬ (n : Int) < 0 := by omega
        have g2 : ¬ (1114111 : Int) < (n : Int) := by omega
        have KX := hid (hex20_says n hn wr)
        have hH := hex_size n hn
        have hT := txt_size hd ts HM.out.ok (by rw [HHD.out]; decide) (by omega)
        have HTX := hid (show bytesI (hd ++ flatL (ts ++ [.num n])) = bytesI (hd ++ flatL ts) ++ (((⟨#[92, 120, 123]⟩ : ByteArray) ++ bytesI (hexL 6 n)) ++ ⟨#[125]⟩) from by
          rw [(flat_snoc ts (.num n)).1, ← List.append_assoc, bytesI_app, show tokL (.num n) = [92, 120, 123] ++ hexL 6 n ++ [125] from rfl, bytesI_app, bytesI_app]
          rfl)
        generalize bytesI (hexL 6 n) = X at *
        obtain ⟨U, hU⟩ : ∃ U, U = bytesI (hd ++ flatL ts) := ⟨_, rfl⟩
        rw [← hU] at hT HTX ⊢
        clear hU hin
        go_wp2_with fail
        refine KX.out.mono ?_
        rintro e w5 ⟨rfl, t5⟩
        have HM5 := hid (HM.out.still t5)
        clear t5 KX HM d0
        go_upto_region 15 with fail
        rw [← HTX.out]
        have TA := hid ((Touch.refl (fun _ => False) w5).alloc (.cells #[.int .i64 (n : Nat), .int .i64 (n : Nat)] 60))
        have RA := hid (show Rg (w5.alloc (.cells #[.int .i64 (n : Nat), .int .i64 (n : Nat)] 60)) (some ⟨w5.heap.size, 0, none⟩) [((n : Int), (n : Int))] from rg_alloc w5 [((n : Int), (n : Int))] 60)
        go_wp2_with fail
        have KO := hid (of_says (some ⟨w5.heap.size, 0, none⟩) 1 [((n : Int), (n : Int))] _ RA.out (by simp))
        simp only [List.length_cons, List.length_nil, Nat.zero_add] at KO
        generalize w5.alloc (.cells #[.int .i64 (n : Nat), .int .i64 (n : Nat)] 60) = w6 at *
        have HM6 := hid (HM5.out.still TA.out)
        clear TA RA HM5
        refine KO.out.mono ?_
        rintro e w7 ⟨v7, s7, rfl, hc7, hi7, ow7⟩
        have HM7 := hid (HM6.out.still ow7.touch)
        obtain ⟨a7, c7, hv7⟩ := own_shape ow7.own
        subst hv7
        have R7 := hid (show Rg w7 a7 s7 from (show SR w7 (.slice a7 s7.length c7) s7 from ow7.own).rg.1)
        have KR := hid (or_says a0 a7 c0 c7 s s7 w7 HM7.out.rg R7.out HM7.out.can hc7)
        have HI7 := hid hi7
        clear KO HM6 ow7 hc7 hi7
        go_wp2_with fail
        refine KR.out.mono ?_
        rintro e w8 ⟨v8, s8, rfl, hc8, hi8, ow8⟩
        obtain ⟨a8, c8, hv8⟩ := own_shape ow8.own
        subst hv8
        have HM8 := hid (show Mk1 w4 hd (ts ++ [.num n]) s8 a8 w8 from ⟨fun t ht => by
            rcases List.mem_append.1 ht with ht | ht
            · exact HM7.out.ok t ht
            · simp at ht
              subst ht
              exact hn, hc8, fun x => by
            rw [hi8 x, HM7.out.is x, HI7.out x, (flat_snoc ts (.num n)).2, in_append, show tokS (.num n) = [((n : Int), (n : Int))] from rfl]
            constructor
            · rintro (⟨h1, h2⟩ | ⟨h1, h2⟩)
              · exact ⟨h1, .inl h2⟩
              · exact ⟨h1, .inr h2⟩
            · rintro ⟨h1, h2 | h2⟩
              · exact .inl ⟨h1, h2⟩
              · exact .inr ⟨h1, h2⟩, ⟨c8, ow8.own⟩, HM7.out.touch.trans ow8.touch (fun _ _ e => e)⟩)
        clear KR R7 HI7 HM7 hc8 hi8 ow8
        have hiI : (i : Int) < 40 := by omega
        have htI : (ts.length : Int) ≤ 40 := by omega
        go_wp2
        go_roundg (gk - 1)
        case measure => omega
        case rel => exact ⟨i + 1, ts ++ [.num n], s8, a8, c8, by omega, by simp, rfl, rfl, by simp, by simp; omega, HM8⟩
      · have hiI : (i : Int) < 40 := by omega
        by_cases h0 : r < 0
        · go_wp2
          go_roundg (gk - 1)
          case measure => omega
          case rel => exact ⟨i + 1, ts, s, a0, c0, by omega, by simp, rfl, rfl, rfl, by omega, HM⟩
        · have g2 : (1114111 : Int) < r := by omega
          go_wp2
          go_roundg (gk - 1)
          case measure => omega
          case rel => exact ⟨i + 1, ts, s, a0, c0, by omega, by simp, rfl, rfl, rfl, by omega, HM⟩
    | false =>
      have htl : ts.length ≤ 40 := by omega
      clear HY hgk hti
      generalize hwq : wr = wA at *
      clear hwq
      have HBA := hid (HBI.out.new (T4.out.trans HM.out.touch (fun _ _ e => e)))
      obtain ⟨tsA, hts⟩ : ∃ tsA, tsA = ts := ⟨_, rfl⟩
      rw [← hts] at HM htl ⊢
      obtain ⟨sA, hsA⟩ : ∃ sA, sA = s := ⟨_, rfl⟩
      rw [← hsA] at HM ⊢
      clear hts hsA
      go_upto_region 18 with fail
      go_loopg [9, 10, 11, 14] 10 (fun gk v9 v10 v11 v14 wq => ∃ (i : Nat) (ts : List Tok) (s : List R2) (a0 : Option Addr) (c0 : Nat), i + gk = 10 ∧ v14 = .int .i64 (i : Nat) ∧ v9 = .string (bytesI (hd ++ flatL ts)) ∧ v10 = .slice a0 s.length c0 ∧ v11 = .int .i64 (ts.length : Nat) ∧ ts.length ≤ i + 40 ∧ Hid (Mk1 w4 hd ts s a0 wq))
      case atStart => exact ⟨0, tsA, sA, a0, c0, rfl, rfl, rfl, rfl, rfl, by omega, HM⟩
      case round =>
        clear HM htl HBA
        obtain ⟨i, ts, s, a0, c0, hgk, rfl, rfl, rfl, rfl, hti, HM⟩ := hrel
        have HBA := hid (HBI.out.new (T4.out.trans HM.out.touch (fun _ _ e => e)))
        obtain ⟨Y, hY⟩ : ∃ Y : Bool, Y = decide (i < B.length ∧ i < 10) := ⟨_, rfl⟩
        have HY := hid hY
        clear hY
        go_upto_region 18 with fail
        go_cut [83] (fun v wd => v = .bool Y ∧ wr = wd)
        case first =>
          by_cases h1 : i < B.length
          · have h1I : (i : Int) < (B.length : Int) := by omega
            by_cases h2 : i < 10
            · have h2I : (i : Int) < 10 := by omega
              have E := hid (show Y = true from by rw [HY.out]; exact decide_eq_true ⟨h1, h2⟩)
              go_wp2
              go_meet
              case rel => exact ⟨by rw [E.out], rfl⟩
            · have h2I : ¬ (i : Int) < 10 := by omega
              have E := hid (show Y = false from by rw [HY.out]; exact decide_eq_false (fun h => h2 h.2))
              go_wp2
              go_meet
              case rel => exact ⟨by rw [E.out], rfl⟩
          · have h1I : ¬ (i : Int) < (B.length : Int) := by omega
            have E := hid (show Y = false from by rw [HY.out]; exact decide_eq_false (fun h => h1 h.1))
            go_wp2
            go_meet
            case rel => exact ⟨by rw [E.out], rfl⟩
        obtain ⟨rfl, rfl⟩ := hcut
        cases Y with
        | true =>
          obtain ⟨h1, h2⟩ := of_decide_eq_true HY.out.symm
          obtain ⟨b, o, ha, hbl, hcell⟩ : ∃ b o, ab = some ⟨b, o, none⟩ ∧ b < wr.heap.size ∧ ∀ i (h : i < B.length), wr.cell? ⟨b, o + i, none⟩ = some (.int .u8 (B[i].toNat : Int)) := by
            rcases HBA.out with h | h
            · rw [h] at h1; simp at h1
            · exact h
          subst ha
          have d0 := hcell i h1
          obtain ⟨r, hr⟩ : ∃ r, r = B[i] := ⟨_, rfl⟩
          rw [← hr] at d0
          obtain ⟨c, hc⟩ : ∃ c, c = r.toNat := ⟨_, rfl⟩
          have HC8 := hid (show UInt8.ofNat c = r from by rw [hc]; exact UInt8.ofNat_toNat)
          have hc255 : c ≤ 255 := by have := r.toNat_lt; omega
          rw [← hc] at d0
          clear hr hcell HBA HY hc
          have h1I : (i : Int) < (B.length : Int) := by omega
          have hiI : (i : Int) < 10 := by omega
          have htI : (ts.length : Int) ≤ 50 := by omega
          by_cases hp : (perlS c).isSome = true
          · have KX := hid (perl_tok c hp wr)
            have hT := txt_size hd ts HM.out.ok (by rw [HHD.out]; decide) (by omega)
            have HTX := hid (show bytesI (hd ++ flatL (ts ++ [.prl c])) = bytesI (hd ++ flatL ts) ++ ((⟨#[92]⟩ : ByteArray) ++ ⟨#[r]⟩) from by
              rw [(flat_snoc ts (.prl c)).1, ← List.append_assoc, show tokL (.prl c) = [92] ++ [(c : Int)] from rfl, bytesI_app (hd ++ flatL ts), bytesI_app [92]]
              have : bytesI [(c : Int)] = ⟨#[r]⟩ := by rw [← HC8.out]; rfl
              rw [this]
              rfl)
            obtain ⟨U, hU⟩ : ∃ U, U = bytesI (hd ++ flatL ts) := ⟨_, rfl⟩
            rw [← hU] at hT HTX ⊢
            clear hU
            go_wp2_with fail
            refine KX.out.mono ?_
            rintro e w5 ⟨v5, s5, rfl, hc5, hi5, ow5⟩
            obtain ⟨a5, c5, hv5⟩ := own_shape ow5.own
            subst hv5
            have HM5 := hid (HM.out.still ow5.touch)
            have R5 := hid (show Rg w5 a5 s5 from (show SR w5 (.slice a5 s5.length c5) s5 from ow5.own).rg.1)
            have HI5 := hid hi5
            have HC5 := hid hc5
            have d5 := (ow5.touch.cell (p := ⟨b, o + i, none⟩) hbl id).trans d0
            clear KX HM d0 ow5 hc5 hi5
            have hcv := conv_lit w5 [r] 1 rfl #[.int .u8 (c : Nat)] (by rw [← HC8.out]; simp; omega)
            go_upto_region 23 with fail
            rw [← HTX.out]
            have TA := hid ((Touch.refl (fun _ => False) w5).alloc (.cells #[.int .u8 (c : Nat)] 5))
            clear hcv d5
            generalize w5.alloc (.cells #[.int .u8 (c : Nat)] 5) = w6 at *
            have HM6 := hid (HM5.out.still TA.out)
            have KR := hid (or_says a0 a5 c0 c5 s s5 w6 HM6.out.rg (R5.out.kept TA.out (fun _ _ _ _ e => e)) HM6.out.can HC5.out)
            clear HM5 TA R5
            go_wp2_with fail
            refine KR.out.mono ?_
            rintro e w8 ⟨v8, s8, rfl, hc8, hi8, ow8⟩
            obtain ⟨a8, c8, hv8⟩ := own_shape ow8.own
            subst hv8
            have HM8 := hid (show Mk1 w4 hd (ts ++ [.prl c]) s8 a8 w8 from ⟨fun t ht => by
                rcases List.mem_append.1 ht with ht | ht
                · exact HM6.out.ok t ht
                · simp at ht
                  subst ht
                  exact hp, hc8, fun x => by
                rw [hi8 x, HM6.out.is x, HI5.out x, (flat_snoc ts (.prl c)).2, in_append]
                constructor
                · rintro (⟨h1, h2⟩ | ⟨h1, h2⟩)
                  · exact ⟨h1, .inl h2⟩
                  · exact ⟨h1, .inr h2⟩
                · rintro ⟨h1, h2 | h2⟩
                  · exact .inl ⟨h1, h2⟩
                  · exact .inr ⟨h1, h2⟩, ⟨c8, ow8.own⟩, HM6.out.touch.trans ow8.touch (fun _ _ e => e)⟩)
            clear KR HI5 HM6 hc8 hi8 ow8
            go_wp2
            go_roundg (gk - 1)
            case measure => omega
            case rel => exact ⟨i + 1, ts ++ [.prl c], s8, a8, c8, by omega, by simp, rfl, rfl, by simp, by simp; omega, HM8⟩
          · have KX := hid (perl_no c hp wr)
            go_wp2_with fail
            refine KX.out.mono ?_
            rintro e w5 ⟨rfl, rfl⟩
            clear KX d0
            go_wp2
            go_roundg (gk - 1)
            case measure => omega
            case rel => exact ⟨i + 1, ts, s, a0, c0, by omega, by simp, rfl, rfl, rfl, by omega, HM⟩
        | false =>
          clear HY HBA
          have hlen : ts.length ≤ 50 := by omega
          clear hti hgk
          by_cases h0 : ts = []
          · subst h0
            have RT := hid (T4.out.trans HM.out.touch (fun _ _ e => e))
            go_wp2
            go_ret
            exact ⟨rfl, RT.out⟩
          · have hnz : ((ts.length : Int) == 0) = false := by
              have : ts.length ≠ 0 := fun e => h0 (List.eq_nil_of_length_eq_zero e)
              simp
              omega
            have hT := txt_size hd ts HM.out.ok (by rw [HHD.out]; decide) (by omega)
            have HPR := hid (toks_prs (s := bytesI (hd ++ flatL ts) ++ ⟨#[93]⟩) false ts HM.out.ok h0 (by omega) (by
              have e : (if false = true then [91, 94] else [91] : List Int) = hd := HHD.out.symm
              rw [e, bytesI_app (hd ++ flatL ts)]
              rfl))
            obtain ⟨U, hU⟩ : ∃ U, U = bytesI (hd ++ flatL ts) := ⟨_, rfl⟩
            rw [← hU] at hT HPR ⊢
            clear hU
            obtain ⟨wN, hwN⟩ : ∃ wN, wN = wr := ⟨_, rfl⟩
            rw [← hwN] at HM ⊢
            obtain ⟨sN, hsN⟩ : ∃ sN, sN = s := ⟨_, rfl⟩
            rw [← hsN] at HM ⊢
            obtain ⟨aN, haN⟩ : ∃ aN, aN = a0 := ⟨_, rfl⟩
            rw [← haN] at HM ⊢
            obtain ⟨cN, hcN⟩ : ∃ cN, cN = c0 := ⟨_, rfl⟩
            rw [← hcN]
            clear hwN hsN haN hcN
            have HN := hid (show Mk2 w4 sN aN wN from ⟨HM.out.can, HM.out.own, HM.out.touch⟩)
            have HSE := hid (show sN = setT false ts from cn_of HM.out.can HM.out.is)
            have RT := hid (T4.out.trans HN.out.touch (fun _ _ e => e))
            have KPP := hid (KP.out (U ++ ⟨#[93]⟩) wN RT.out)
            rw [HPR.out] at KPP
            have HCT := hid (HN.out.can)
            have PN := hid ((HN.out.touch.block p (lt_of_block P4.out) id).trans P4.out)
            have QN := hid ((HN.out.touch.block (p + 1) (lt_of_block Q4.out) id).trans Q4.out)
            have RGN := hid HN.out.rg
            unfold fl0 PrsP at KPP
            simp only at KPP
            clear HPR KP P4 Q4 HM
            go_wp2_with fail
            refine KPP.out.mono ?_
            rintro e wP ⟨c, an2, nn2, cn2, rfl, htP, hsP, hnP, tP⟩
            have e1 := htP.inv.1
            have sr := htP.inv.2.1
            obtain ⟨ck, sa2, sn2, sc2, fo, mi, ma, la, ca, nm, ka2, kn2, kc2⟩ := c
            simp only at e1 sr
            obtain ⟨rfl, rfl, rfl, rfl, rfl, rfl, rfl⟩ := e1
            have RGP := hid sr.rg.1
            have HSN2 := hid sr.rg.2
            have SRP := hid sr
            have OWN := hid (show ∃ c, SR wP (.slice aN sN.length c) sN from by
              obtain ⟨c, hc⟩ := HN.out.own
              exact ⟨c, rowKept hc tP (fun _ _ e => e)⟩)
            unfold Cel.arr
            have RTP := hid (RT.out.trans tP (fun _ _ e => e))
            replace PN := hid ((tP.block p (lt_of_block PN.out) id).trans PN.out)
            replace QN := hid ((tP.block (p + 1) (lt_of_block QN.out) id).trans QN.out)
            replace RGN := hid (RGN.out.kept tP (fun _ _ _ _ e => e))
            clear KPP htP hsP hnP tP sr RT
            have hpq : p ≠ p + 1 := by omega
            obtain ⟨R1, R2, R3, R4⟩ := two_rows PN.out QN.out hpq #[.int .i64 1, .slice sa2 sn2 sc2, .bool false, .int .i64 0, .int .i64 0, .bool false, .int .i64 0, .string ⟨#[]⟩, .slice ka2 kn2 kc2, .slice an2 nn2 cn2] #[.int .i64 0, .int .i64 0]
            have TZ := hid (RTP.out.trans R4 (fun i hi e => by have := HPL.out; omega))
            have NSA := hid (show ∀ b o, sa2 = some ⟨b, o, none⟩ → ¬ (b = p ∨ b = p + 1) from fun b o e h => by
              obtain ⟨cs, fr, hh⟩ := own_type SRP.out b (by rw [e]; rfl)
              rcases h with h | h
              · rw [h, PN.out] at hh; cases hh
              · rw [h, QN.out] at hh; cases hh)
            have NSN := hid (show ∀ b o, aN = some ⟨b, o, none⟩ → ¬ (b = p ∨ b = p + 1) from fun b o e h => by
              obtain ⟨c, hc⟩ := OWN.out
              obtain ⟨cs, fr, hh⟩ := own_type hc b (by rw [e]; rfl)
              rcases h with h | h
              · rw [h, PN.out] at hh; cases hh
              · rw [h, QN.out] at hh; cases hh)
            have RGZ := hid (RGP.out.kept R4 (fun b o e hb => NSA.out b o e))
            have RNZ := hid (RGN.out.kept R4 (fun b o e hb => NSN.out b o e))
            have R1h := hid R1
            have R2h := hid R2
            have R3h := hid R3
            clear R1 R2 R3 R4 hpq RGP RGN
            go_upto_region 30 with (first | refine wpList_store_row rfl 31 _ _ rfl p _ rfl rfl 31 _ PN.out info31 (by rfl) (by simp [Value.oneCell']) ?_ | refine wpList_store_row rfl 34 _ _ rfl (p + 1) _ rfl rfl 34 _ R1h.out info34 (by rfl) (two_one34 _ _) ?_ | fail)
            clear PN QN R1h
            generalize (World.setRow _ (p + 1) _) = wZ at *
            have c0' : wZ.cell? ⟨p, 0, none⟩ = some (.int .i64 1) := cell_of R2h.out 0 _ rfl
            have c1' : wZ.cell? ⟨p, 1, none⟩ = some (.slice sa2 sn2 sc2) := cell_of R2h.out 1 _ rfl
            have KSM := hid (same_any sa2 aN sc2 cN sN sN wZ (by rw [HSE.out]; exact RGZ.out) RNZ.out (by have := canon_len HCT.out; omega))
            rw [show decide (sN = sN) = true from decide_eq_true rfl, show sN.length = sn2 from by rw [HSE.out]; exact HSN2.out.symm] at KSM
            rw [show sN.length = sn2 from by rw [HSE.out]; exact HSN2.out.symm]
            clear HSE HSN2 RGZ RNZ HCT
            go_wp2_with (first | refine wpList_load_row rfl 34 _ rfl (p + 1) rfl 34 _ (0, 0) _ R3h.out Tryz.underlying34 rfl info34 ?_ | fail)
            refine KSM.out.mono ?_
            rintro e wY ⟨rfl, tY⟩
            have TY := hid (TZ.out.trans tY (fun _ _ e => e))
            clear tY KSM c0' c1' R2h R3h
            go_wp2
            go_ret
            exact ⟨rfl, TY.out⟩
set_option maxRecDepth 100000 in
set_option maxHeartbeats 16000000 in
theorem classes_t (L : List Int) (B : List UInt8) (al ab : Option Addr) (cl cb : Nat) (w : World) (hL : Io w al L) (hB : Ib w ab B) (ht : TabsK w) (hx : Sx w) (h7 : 7 ≤ w.heap.size) :
    Calls Tryz.prog 10 #[.slice al L.length cl, .slice ab B.length cb, .bool true] w fun e w' => e = .returned (.bool true) ∧ Touch (fun _ => False) w w' := by
  obtain ⟨hd, hhd⟩ : ∃ hd, hd = ([91, 94] : List Int) := ⟨_, rfl⟩
  have KP := hid (fun (s : ByteArray) (wq : World) (t : Touch (fun _ => False) w wq) => parse_any s fl0 wq (ht.new t) (hx.new t) (Nat.le_trans h7 t.size))
  have KP1 := hid (KP.out ⟨#[91, 97, 98, 93]⟩ w (Touch.refl _ _))
  rw [ab_prs] at KP1
  have HAB := hid ab_has
  have HCN := hid (cn_good ([(97, 97)] ++ [(98, 98)])).1
  generalize cnR ([(97, 97)] ++ [(98, 98)]) = S1 at *
  unfold fl0 PrsP at KP1
  simp only at KP1
  have HLI := hid hL
  have HBI := hid hB
  clear ht hx h7 hL hB
  go_enter Tryz.func10, Tryz.ntmps10
  go_wp2_with fail
  refine KP1.out.mono ?_
  rintro e w1 ⟨c, an, nn, cn, rfl, ht1, hs1, hn1, t1⟩
  have T1 := hid t1
  have e1 := ht1.inv.1
  have sr := ht1.inv.2.1
  obtain ⟨ck, sa, sn, sc, fo, mi, ma, la, ca, nm, ka, kn, kc⟩ := c
  simp only at e1 sr
  obtain ⟨rfl, rfl, rfl, rfl, rfl, rfl, rfl⟩ := e1
  have RG1 := hid sr.rg.1
  have HSN := hid sr.rg.2
  unfold Cel.arr
  clear t1 KP1 ht1 hs1 hn1 sr
  go_upto_region 2 with fail
  have HK := kept2 w1 #[.int .i64 1, .slice sa sn sc, .bool false, .int .i64 0, .int .i64 0, .bool false, .int .i64 0, .string ⟨#[]⟩, .slice ka kn kc, .slice an nn cn] #[.int .i64 0, .int .i64 0]
  generalize (w1.alloc (.cells #[.int .i64 1, .slice sa sn sc, .bool false, .int .i64 0, .int .i64 0, .bool false, .int .i64 0, .string ⟨#[]⟩, .slice ka kn kc, .slice an nn cn] 31)).alloc (.cells #[.int .i64 0, .int .i64 0] 34) = w2 at *
  obtain ⟨hp2, hq2, t2⟩ := HK
  have T2 := hid (T1.out.trans t2 (fun _ _ e => e))
  have RG2 := hid (RG1.out.kept t2 (fun _ _ _ _ e => e))
  obtain ⟨p, hpe⟩ : ∃ p, p = w1.heap.size := ⟨_, rfl⟩
  have HPL := hid (show w.heap.size ≤ p from by rw [hpe]; exact T1.out.size)
  rw [← hpe] at hp2 hq2 ⊢
  clear hpe T1 t2 RG1
  have P2 := hid hp2
  have Q2 := hid hq2
  clear hp2 hq2
  have KH := hid (fun (wq : World) (t : Touch (fun _ => False) w2 wq) (r : Int) => has_says sa sc S1 r wq (RG2.out.kept t (fun _ _ _ _ e => e)) HCN.out)
  rw [← HSN.out] at KH
  have c1 : w2.cell? ⟨p, 1, none⟩ = some (.slice sa sn sc) := cell_of P2.out 1 _ rfl
  have KH1 := hid (KH.out w2 (Touch.refl _ _) 98)
  rw [HAB.out.1] at KH1
  go_wp2_with (first | refine wpList_load_row rfl 34 _ rfl (p + 1) rfl 34 _ (0, 0) _ Q2.out Tryz.underlying34 rfl info34 ?_ | fail)
  refine KH1.out.mono ?_
  rintro e w3 ⟨rfl, t3⟩
  have T3 := hid (T2.out.trans t3 (fun _ _ e => e))
  have KH2 := hid (KH.out w3 t3 99)
  rw [HAB.out.2] at KH2
  have U3 := hid t3
  have d1 : w3.cell? ⟨p, 1, none⟩ = some (.slice sa sn sc) := (t3.cell (p := ⟨p, 1, none⟩) (lt_of_block P2.out) id).trans c1
  clear t3 KH1 T2 KH c1
  go_wp2_with fail
  refine KH2.out.mono ?_
  rintro e w4 ⟨rfl, t4⟩
  have T4 := hid (T3.out.trans t4 (fun _ _ e => e))
  have U4 := hid (U3.out.trans t4 (fun _ _ e => e))
  have P4 := hid ((U4.out.block p (lt_of_block P2.out) id).trans P2.out)
  have Q4 := hid ((U4.out.block (p + 1) (lt_of_block Q2.out) id).trans Q2.out)
  clear t4 KH2 T3 U3 d1 P2 Q2 RG2 HSN HAB HCN U4
  go_upto_region 9 with fail
  have HI4 := hid (HLI.out.new T4.out)
  rw [show ((⟨#[91]⟩ : ByteArray) ++ ⟨#[94]⟩ : ByteArray) = bytesI (hd ++ flatL []) from by rw [hhd]; rfl]
  have HHD := hid hhd
  clear hhd
  go_upto_region 10 with fail
  go_loopg [9, 10, 11, 12] 40 (fun gk v9 v10 v11 v12 wq => ∃ (i : Nat) (ts : List Tok) (s : List R2) (a0 : Option Addr) (c0 : Nat), i + gk = 40 ∧ v12 = .int .i64 (i : Nat) ∧ v9 = .string (bytesI (hd ++ flatL ts)) ∧ v10 = .slice a0 s.length c0 ∧ v11 = .int .i64 (ts.length : Nat) ∧ ts.length ≤ i ∧ Hid (Mk1 w4 hd ts s a0 wq))
  case atStart => exact ⟨0, [], [], none, 0, rfl, rfl, rfl, rfl, rfl, Nat.le_refl _, hid ⟨fun t ht => by simp at ht, ⟨fun r hr => by simp at hr, List.Pairwise.nil⟩, fun x => by simp [In, flatS], ⟨0, sr_nil _⟩, Touch.refl _ _⟩⟩
  case round =>
    obtain ⟨i, ts, s, a0, c0, hgk, rfl, rfl, rfl, rfl, hti, HM⟩ := hrel
    obtain ⟨Y, hY⟩ : ∃ Y : Bool, Y = decide (i < L.length ∧ i < 40) := ⟨_, rfl⟩
    have HY := hid hY
    clear hY
    go_upto_region 10 with fail
    go_cut [48] (fun v wd => v = .bool Y ∧ wr = wd)
    case first =>
      by_cases h1 : i < L.length
      · have h1I : (i : Int) < (L.length : Int) := by omega
        by_cases h2 : i < 40
        · have h2I : (i : Int) < 40 := by omega
          have E := hid (show Y = true from by rw [HY.out]; exact decide_eq_true ⟨h1, h2⟩)
          go_wp2
          go_meet
          case rel => exact ⟨by rw [E.out], rfl⟩
        · have h2I : ¬ (i : Int) < 40 := by omega
          have E := hid (show Y = false from by rw [HY.out]; exact decide_eq_false (fun h => h2 h.2))
          go_wp2
          go_meet
          case rel => exact ⟨by rw [E.out], rfl⟩
      · have h1I : ¬ (i : Int) < (L.length : Int) := by omega
        have E := hid (show Y = false from by rw [HY.out]; exact decide_eq_false (fun h => h1 h.1))
        go_wp2
        go_meet
        case rel => exact ⟨by rw [E.out], rfl⟩
    obtain ⟨rfl, rfl⟩ := hcut
    cases Y with
    | true =>
      obtain ⟨h1, h2⟩ := of_decide_eq_true HY.out.symm
      have hIr := hid (HI4.out.new HM.out.touch)
      obtain ⟨b, o, ha, hcell⟩ : ∃ b o, al = some ⟨b, o, none⟩ ∧ ∀ i (h : i < L.length), wr.cell? ⟨b, o + i, none⟩ = some (.int .i64 L[i]) := by
        rcases hIr.out with h | h
        · rw [h] at h1; simp at h1
        · exact h
      subst ha
      have d0 := hcell i h1
      obtain ⟨r, hr⟩ : ∃ r, r = L[i] := ⟨_, rfl⟩
      rw [← hr] at d0
      clear hr hcell hIr HY
      have h1I : (i : Int) < (L.length : Int) := by omega
      by_cases hin : 0 ≤ r ∧ r ≤ 1114111
      · obtain ⟨n, rfl⟩ := Int.eq_ofNat_of_zero_le hin.1
        have hn : n ≤ 1114111 := by omega
        have g1 : ¬ (n : Int) < 0 := by omega
        have g2 : ¬ (1114111 : Int) < (n : Int) := by omega
        have KX := hid (hex20_says n hn wr)
        have hH := hex_size n hn
        have hT := txt_size hd ts HM.out.ok (by rw [HHD.out]; decide) (by omega)
        have HTX := hid (show bytesI (hd ++ flatL (ts ++ [.num n])) = bytesI (hd ++ flatL ts) ++ (((⟨#[92, 120, 123]⟩ : ByteArray) ++ bytesI (hexL 6 n)) ++ ⟨#[125]⟩) from by
          rw [(flat_snoc ts (.num n)).1, ← List.append_assoc, bytesI_app, show tokL (.num n) = [92, 120, 123] ++ hexL 6 n ++ [125] from rfl, bytesI_app, bytesI_app]
          rfl)
        generalize bytesI (hexL 6 n) = X at *
        obtain ⟨U, hU⟩ : ∃ U, U = bytesI (hd ++ flatL ts) := ⟨_, rfl⟩
        rw [← hU] at hT HTX ⊢
        clear hU hin
        go_wp2_with fail
        refine KX.out.mono ?_
        rintro e w5 ⟨rfl, t5⟩
        have HM5 := hid (HM.out.still t5)
        clear t5 KX HM d0
        go_upto_region 15 with fail
        rw [← HTX.out]
        have TA := hid ((Touch.refl (fun _ => False) w5).alloc (.cells #[.int .i64 (n : Nat), .int .i64 (n : Nat)] 60))
        have RA := hid (show Rg (w5.alloc (.cells #[.int .i64 (n : Nat), .int .i64 (n : Nat)] 60)) (some ⟨w5.heap.size, 0, none⟩) [((n : Int), (n : Int))] from rg_alloc w5 [((n : Int), (n : Int))] 60)
        go_wp2_with fail
        have KO := hid (of_says (some ⟨w5.heap.size, 0, none⟩) 1 [((n : Int), (n : Int))] _ RA.out (by simp))
        simp only [List.length_cons, List.length_nil, Nat.zero_add] at KO
        generalize w5.alloc (.cells #[.int .i64 (n : Nat), .int .i64 (n : Nat)] 60) = w6 at *
        have HM6 := hid (HM5.out.still TA.out)
        clear TA RA HM5
        refine KO.out.mono ?_
        rintro e w7 ⟨v7, s7, rfl, hc7, hi7, ow7⟩
        have HM7 := hid (HM6.out.still ow7.touch)
        obtain ⟨a7, c7, hv7⟩ := own_shape ow7.own
        subst hv7
        have R7 := hid (show Rg w7 a7 s7 from (show SR w7 (.slice a7 s7.length c7) s7 from ow7.own).rg.1)
        have KR := hid (or_says a0 a7 c0 c7 s s7 w7 HM7.out.rg R7.out HM7.out.can hc7)
        have HI7 := hid hi7
        clear KO HM6 ow7 hc7 hi7
        go_wp2_with fail
        refine KR.out.mono ?_
        rintro e w8 ⟨v8, s8, rfl, hc8, hi8, ow8⟩
        obtain ⟨a8, c8, hv8⟩ := own_shape ow8.own
        subst hv8
        have HM8 := hid (show Mk1 w4 hd (ts ++ [.num n]) s8 a8 w8 from ⟨fun t ht => by
            rcases List.mem_append.1 ht with ht | ht
            · exact HM7.out.ok t ht
            · simp at ht
              subst ht
              exact hn, hc8, fun x => by
            rw [hi8 x, HM7.out.is x, HI7.out x, (flat_snoc ts (.num n)).2, in_append, show tokS (.num n) = [((n : Int), (n : Int))] from rfl]
            constructor
            · rintro (⟨h1, h2⟩ | ⟨h1, h2⟩)
              · exact ⟨h1, .inl h2⟩
              · exact ⟨h1, .inr h2⟩
            · rintro ⟨h1, h2 | h2⟩
              · exact .inl ⟨h1, h2⟩
              · exact .inr ⟨h1, h2⟩, ⟨c8, ow8.own⟩, HM7.out.touch.trans ow8.touch (fun _ _ e => e)⟩)
        clear KR R7 HI7 HM7 hc8 hi8 ow8
        have hiI : (i : Int) < 40 := by omega
        have htI : (ts.length : Int) ≤ 40 := by omega
        go_wp2
        go_roundg (gk - 1)
        case measure => omega
        case rel => exact ⟨i + 1, ts ++ [.num n], s8, a8, c8, by omega, by simp, rfl, rfl, by simp, by simp; omega, HM8⟩
      · have hiI : (i : Int) < 40 := by omega
        by_cases h0 : r < 0
        · go_wp2
          go_roundg (gk - 1)
          case measure => omega
          case rel => exact ⟨i + 1, ts, s, a0, c0, by omega, by simp, rfl, rfl, rfl, by omega, HM⟩
        · have g2 : (1114111 : Int) < r := by omega
          go_wp2
          go_roundg (gk - 1)
          case measure => omega
          case rel => exact ⟨i + 1, ts, s, a0, c0, by omega, by simp, rfl, rfl, rfl, by omega, HM⟩
    | false =>
      have htl : ts.length ≤ 40 := by omega
      clear HY hgk hti
      generalize hwq : wr = wA at *
      clear hwq
      have HBA := hid (HBI.out.new (T4.out.trans HM.out.touch (fun _ _ e => e)))
      obtain ⟨tsA, hts⟩ : ∃ tsA, tsA = ts := ⟨_, rfl⟩
      rw [← hts] at HM htl ⊢
      obtain ⟨sA, hsA⟩ : ∃ sA, sA = s := ⟨_, rfl⟩
      rw [← hsA] at HM ⊢
      clear hts hsA
      go_upto_region 18 with fail
      go_loopg [9, 10, 11, 14] 10 (fun gk v9 v10 v11 v14 wq => ∃ (i : Nat) (ts : List Tok) (s : List R2) (a0 : Option Addr) (c0 : Nat), i + gk = 10 ∧ v14 = .int .i64 (i : Nat) ∧ v9 = .string (bytesI (hd ++ flatL ts)) ∧ v10 = .slice a0 s.length c0 ∧ v11 = .int .i64 (ts.length : Nat) ∧ ts.length ≤ i + 40 ∧ Hid (Mk1 w4 hd ts s a0 wq))
      case atStart => exact ⟨0, tsA, sA, a0, c0, rfl, rfl, rfl, rfl, rfl, by omega, HM⟩
      case round =>
        clear HM htl HBA
        obtain ⟨i, ts, s, a0, c0, hgk, rfl, rfl, rfl, rfl, hti, HM⟩ := hrel
        have HBA := hid (HBI.out.new (T4.out.trans HM.out.touch (fun _ _ e => e)))
        obtain ⟨Y, hY⟩ : ∃ Y : Bool, Y = decide (i < B.length ∧ i < 10) := ⟨_, rfl⟩
        have HY := hid hY
        clear hY
        go_upto_region 18 with fail
        go_cut [83] (fun v wd => v = .bool Y ∧ wr = wd)
        case first =>
          by_cases h1 : i < B.length
          · have h1I : (i : Int) < (B.length : Int) := by omega
            by_cases h2 : i < 10
            · have h2I : (i : Int) < 10 := by omega
              have E := hid (show Y = true from by rw [HY.out]; exact decide_eq_true ⟨h1, h2⟩)
              go_wp2
              go_meet
              case rel => exact ⟨by rw [E.out], rfl⟩
            · have h2I : ¬ (i : Int) < 10 := by omega
              have E := hid (show Y = false from by rw [HY.out]; exact decide_eq_false (fun h => h2 h.2))
              go_wp2
              go_meet
              case rel => exact ⟨by rw [E.out], rfl⟩
          · have h1I : ¬ (i : Int) < (B.length : Int) := by omega
            have E := hid (show Y = false from by rw [HY.out]; exact decide_eq_false (fun h => h1 h.1))
            go_wp2
            go_meet
            case rel => exact ⟨by rw [E.out], rfl⟩
        obtain ⟨rfl, rfl⟩ := hcut
        cases Y with
        | true =>
          obtain ⟨h1, h2⟩ := of_decide_eq_true HY.out.symm
          obtain ⟨b, o, ha, hbl, hcell⟩ : ∃ b o, ab = some ⟨b, o, none⟩ ∧ b < wr.heap.size ∧ ∀ i (h : i < B.length), wr.cell? ⟨b, o + i, none⟩ = some (.int .u8 (B[i].toNat : Int)) := by
            rcases HBA.out with h | h
            · rw [h] at h1; simp at h1
            · exact h
          subst ha
          have d0 := hcell i h1
          obtain ⟨r, hr⟩ : ∃ r, r = B[i] := ⟨_, rfl⟩
          rw [← hr] at d0
          obtain ⟨c, hc⟩ : ∃ c, c = r.toNat := ⟨_, rfl⟩
          have HC8 := hid (show UInt8.ofNat c = r from by rw [hc]; exact UInt8.ofNat_toNat)
          have hc255 : c ≤ 255 := by have := r.toNat_lt; omega
          rw [← hc] at d0
          clear hr hcell HBA HY hc
          have h1I : (i : Int) < (B.length : Int) := by omega
          have hiI : (i : Int) < 10 := by omega
          have htI : (ts.length : Int) ≤ 50 := by omega
          by_cases hp : (perlS c).isSome = true
          · have KX := hid (perl_tok c hp wr)
            have hT := txt_size hd ts HM.out.ok (by rw [HHD.out]; decide) (by omega)
            have HTX := hid (show bytesI (hd ++ flatL (ts ++ [.prl c])) = bytesI (hd ++ flatL ts) ++ ((⟨#[92]⟩ : ByteArray) ++ ⟨#[r]⟩) from by
              rw [(flat_snoc ts (.prl c)).1, ← List.append_assoc, show tokL (.prl c) = [92] ++ [(c : Int)] from rfl, bytesI_app (hd ++ flatL ts), bytesI_app [92]]
              have : bytesI [(c : Int)] = ⟨#[r]⟩ := by rw [← HC8.out]; rfl
              rw [this]
              rfl)
            obtain ⟨U, hU⟩ : ∃ U, U = bytesI (hd ++ flatL ts) := ⟨_, rfl⟩
            rw [← hU] at hT HTX ⊢
            clear hU
            go_wp2_with fail
            refine KX.out.mono ?_
            rintro e w5 ⟨v5, s5, rfl, hc5, hi5, ow5⟩
            obtain ⟨a5, c5, hv5⟩ := own_shape ow5.own
            subst hv5
            have HM5 := hid (HM.out.still ow5.touch)
            have R5 := hid (show Rg w5 a5 s5 from (show SR w5 (.slice a5 s5.length c5) s5 from ow5.own).rg.1)
            have HI5 := hid hi5
            have HC5 := hid hc5
            have d5 := (ow5.touch.cell (p := ⟨b, o + i, none⟩) hbl id).trans d0
            clear KX HM d0 ow5 hc5 hi5
            have hcv := conv_lit w5 [r] 1 rfl #[.int .u8 (c : Nat)] (by rw [← HC8.out]; simp; omega)
            go_upto_region 23 with fail
            rw [← HTX.out]
            have TA := hid ((Touch.refl (fun _ => False) w5).alloc (.cells #[.int .u8 (c : Nat)] 5))
            clear hcv d5
            generalize w5.alloc (.cells #[.int .u8 (c : Nat)] 5) = w6 at *
            have HM6 := hid (HM5.out.still TA.out)
            have KR := hid (or_says a0 a5 c0 c5 s s5 w6 HM6.out.rg (R5.out.kept TA.out (fun _ _ _ _ e => e)) HM6.out.can HC5.out)
            clear HM5 TA R5
            go_wp2_with fail
            refine KR.out.mono ?_
            rintro e w8 ⟨v8, s8, rfl, hc8, hi8, ow8⟩
            obtain ⟨a8, c8, hv8⟩ := own_shape ow8.own
            subst hv8
            have HM8 := hid (show Mk1 w4 hd (ts ++ [.prl c]) s8 a8 w8 from ⟨fun t ht => by
                rcases List.mem_append.1 ht with ht | ht
                · exact HM6.out.ok t ht
                · simp at ht
                  subst ht
                  exact hp, hc8, fun x => by
                rw [hi8 x, HM6.out.is x, HI5.out x, (flat_snoc ts (.prl c)).2, in_append]
                constructor
                · rintro (⟨h1, h2⟩ | ⟨h1, h2⟩)
                  · exact ⟨h1, .inl h2⟩
                  · exact ⟨h1, .inr h2⟩
                · rintro ⟨h1, h2 | h2⟩
                  · exact .inl ⟨h1, h2⟩
                  · exact .inr ⟨h1, h2⟩, ⟨c8, ow8.own⟩, HM6.out.touch.trans ow8.touch (fun _ _ e => e)⟩)
            clear KR HI5 HM6 hc8 hi8 ow8
            go_wp2
            go_roundg (gk - 1)
            case measure => omega
            case rel => exact ⟨i + 1, ts ++ [.prl c], s8, a8, c8, by omega, by simp, rfl, rfl, by simp, by simp; omega, HM8⟩
          · have KX := hid (perl_no c hp wr)
            go_wp2_with fail
            refine KX.out.mono ?_
            rintro e w5 ⟨rfl, rfl⟩
            clear KX d0
            go_wp2
            go_roundg (gk - 1)
            case measure => omega
            case rel => exact ⟨i + 1, ts, s, a0, c0, by omega, by simp, rfl, rfl, rfl, by omega, HM⟩
        | false =>
          clear HY HBA
          have hlen : ts.length ≤ 50 := by omega
          clear hti hgk
          by_cases h0 : ts = []
          · subst h0
            have RT := hid (T4.out.trans HM.out.touch (fun _ _ e => e))
            go_wp2
            go_ret
            exact ⟨rfl, RT.out⟩
          · have hnz : ((ts.length : Int) == 0) = false := by
              have : ts.length ≠ 0 := fun e => h0 (List.eq_nil_of_length_eq_zero e)
              simp
              omega
            have hT := txt_size hd ts HM.out.ok (by rw [HHD.out]; decide) (by omega)
            have HPR := hid (toks_prs (s := bytesI (hd ++ flatL ts) ++ ⟨#[93]⟩) true ts HM.out.ok h0 (by omega) (by
              have e : (if true = true then [91, 94] else [91] : List Int) = hd := HHD.out.symm
              rw [e, bytesI_app (hd ++ flatL ts)]
              rfl))
            obtain ⟨U, hU⟩ : ∃ U, U = bytesI (hd ++ flatL ts) := ⟨_, rfl⟩
            rw [← hU] at hT HPR ⊢
            clear hU
            have KN := hid (not_says a0 c0 s wr HM.out.rg HM.out.can)
            go_wp2_with fail
            refine KN.out.mono ?_
            rintro e wN ⟨vN, sN, rfl, hcN, hiN, owN⟩
            obtain ⟨aN, cN, hvN⟩ := own_shape owN.own
            subst hvN
            have HN := hid (show Mk2 w4 sN aN wN from ⟨hcN, ⟨cN, owN.own⟩, HM.out.touch.trans owN.touch (fun _ _ e => e)⟩)
            have HSE := hid (show sN = setT true ts from not_of hcN (fun x => by
              rw [hiN x, HM.out.is x]
              exact ⟨fun h => ⟨h.1, fun h2 => h.2 ⟨h.1, h2⟩⟩, fun h => ⟨h.1, fun h2 => h.2 h2.2⟩⟩))
            clear KN hcN hiN owN hnz
            have RT := hid (T4.out.trans HN.out.touch (fun _ _ e => e))
            have KPP := hid (KP.out (U ++ ⟨#[93]⟩) wN RT.out)
            rw [HPR.out] at KPP
            have HCT := hid (HN.out.can)
            have PN := hid ((HN.out.touch.block p (lt_of_block P4.out) id).trans P4.out)
            have QN := hid ((HN.out.touch.block (p + 1) (lt_of_block Q4.out) id).trans Q4.out)
            have RGN := hid HN.out.rg
            unfold fl0 PrsP at KPP
            simp only at KPP
            clear HPR KP P4 Q4 HM
            go_wp2_with fail
            refine KPP.out.mono ?_
            rintro e wP ⟨c, an2, nn2, cn2, rfl, htP, hsP, hnP, tP⟩
            have e1 := htP.inv.1
            have sr := htP.inv.2.1
            obtain ⟨ck, sa2, sn2, sc2, fo, mi, ma, la, ca, nm, ka2, kn2, kc2⟩ := c
            simp only at e1 sr
            obtain ⟨rfl, rfl, rfl, rfl, rfl, rfl, rfl⟩ := e1
            have RGP := hid sr.rg.1
            have HSN2 := hid sr.rg.2
            have SRP := hid sr
            have OWN := hid (show ∃ c, SR wP (.slice aN sN.length c) sN from by
              obtain ⟨c, hc⟩ := HN.out.own
              exact ⟨c, rowKept hc tP (fun _ _ e => e)⟩)
            unfold Cel.arr
            have RTP := hid (RT.out.trans tP (fun _ _ e => e))
            replace PN := hid ((tP.block p (lt_of_block PN.out) id).trans PN.out)
            replace QN := hid ((tP.block (p + 1) (lt_of_block QN.out) id).trans QN.out)
            replace RGN := hid (RGN.out.kept tP (fun _ _ _ _ e => e))
            clear KPP htP hsP hnP tP sr RT
            have hpq : p ≠ p + 1 := by omega
            obtain ⟨R1, R2, R3, R4⟩ := two_rows PN.out QN.out hpq #[.int .i64 1, .slice sa2 sn2 sc2, .bool false, .int .i64 0, .int .i64 0, .bool false, .int .i64 0, .string ⟨#[]⟩, .slice ka2 kn2 kc2, .slice an2 nn2 cn2] #[.int .i64 0, .int .i64 0]
            have TZ := hid (RTP.out.trans R4 (fun i hi e => by have := HPL.out; omega))
            have NSA := hid (show ∀ b o, sa2 = some ⟨b, o, none⟩ → ¬ (b = p ∨ b = p + 1) from fun b o e h => by
              obtain ⟨cs, fr, hh⟩ := own_type SRP.out b (by rw [e]; rfl)
              rcases h with h | h
              · rw [h, PN.out] at hh; cases hh
              · rw [h, QN.out] at hh; cases hh)
            have NSN := hid (show ∀ b o, aN = some ⟨b, o, none⟩ → ¬ (b = p ∨ b = p + 1) from fun b o e h => by
              obtain ⟨c, hc⟩ := OWN.out
              obtain ⟨cs, fr, hh⟩ := own_type hc b (by rw [e]; rfl)
              rcases h with h | h
              · rw [h, PN.out] at hh; cases hh
              · rw [h, QN.out] at hh; cases hh)
            have RGZ := hid (RGP.out.kept R4 (fun b o e hb => NSA.out b o e))
            have RNZ := hid (RGN.out.kept R4 (fun b o e hb => NSN.out b o e))
            have R1h := hid R1
            have R2h := hid R2
            have R3h := hid R3
            clear R1 R2 R3 R4 hpq RGP RGN
            go_upto_region 30 with (first | refine wpList_store_row rfl 31 _ _ rfl p _ rfl rfl 31 _ PN.out info31 (by rfl) (by simp [Value.oneCell']) ?_ | refine wpList_store_row rfl 34 _ _ rfl (p + 1) _ rfl rfl 34 _ R1h.out info34 (by rfl) (two_one34 _ _) ?_ | fail)
            clear PN QN R1h
            generalize (World.setRow _ (p + 1) _) = wZ at *
            have c0' : wZ.cell? ⟨p, 0, none⟩ = some (.int .i64 1) := cell_of R2h.out 0 _ rfl
            have c1' : wZ.cell? ⟨p, 1, none⟩ = some (.slice sa2 sn2 sc2) := cell_of R2h.out 1 _ rfl
            have KSM := hid (same_any sa2 aN sc2 cN sN sN wZ (by rw [HSE.out]; exact RGZ.out) RNZ.out (by have := canon_len HCT.out; omega))
            rw [show decide (sN = sN) = true from decide_eq_true rfl, show sN.length = sn2 from by rw [HSE.out]; exact HSN2.out.symm] at KSM
            rw [show sN.length = sn2 from by rw [HSE.out]; exact HSN2.out.symm]
            clear HSE HSN2 RGZ RNZ HCT
            go_wp2_with (first | refine wpList_load_row rfl 34 _ rfl (p + 1) rfl 34 _ (0, 0) _ R3h.out Tryz.underlying34 rfl info34 ?_ | fail)
            refine KSM.out.mono ?_
            rintro e wY ⟨rfl, tY⟩
            have TY := hid (TZ.out.trans tY (fun _ _ e => e))
            clear tY KSM c0' c1' R2h R3h
            go_wp2
            go_ret
            exact ⟨rfl, TY.out⟩
theorem classes_walk (L : List Int) (B : List UInt8) (al ab : Option Addr) (cl cb : Nat) (z : Bool) (w : World) (hL : Io w al L) (hB : Ib w ab B) (ht : TabsK w) (hx : Sx w) (h7 : 7 ≤ w.heap.size) :
    Calls Tryz.prog 10 #[.slice al L.length cl, .slice ab B.length cb, .bool z] w fun e w' => e = .returned (.bool true) ∧ Touch (fun _ => False) w w' := by
  cases z
  · exact classes_f L B al ab cl cb w hL hB ht hx h7
  · exact classes_t L B al ab cl cb w hL hB ht hx h7
end Go.Proofs.YtdhhcefmmojcmaaGreatDoor
