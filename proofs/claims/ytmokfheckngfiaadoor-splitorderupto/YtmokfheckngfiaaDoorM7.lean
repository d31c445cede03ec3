/- Texts of this proof, one behind the other: what each says stands ahead of it. -/
import Derived.Test.YtmokfheckngfiaaDoorM4
import Derived.Test.YtmokfheckngfiaaDoorM6
import Derived.Deep.RegionHeld3
import Derived.Deep.RegionLaw
/- rowOf: the row of a part whose ends have as many bytes; conditions: those told. -/
namespace Go.Proofs.YtmokfheckngfiaaDoor
open Go.RowKit
open Go.Lib

theorem en8_len (r : Int) : 1 ≤ (en8 r).length ∧ (en8 r).length ≤ 4 := by
  unfold en8
  repeat' split
  all_goals simp
theorem str_size (l : List Int) : (strOfNums l).size = l.length := by
  show ((l.map fun n => UInt8.ofNat n.toNat).toArray).size = _
  simp
theorem at_str (l : List Int) (h : ∀ b ∈ l, 0 ≤ b ∧ b ≤ 255) (i : Nat) (hi : i < (strOfNums l).size) (hl : i < l.length) : ((strOfNums l)[i].toNat : Int) = l[i] := by
  have hb := h l[i] (List.getElem_mem hl)
  have h1 : (strOfNums l)[i] = UInt8.ofNat l[i].toNat := by
    show ((l.map fun n => UInt8.ofNat n.toNat).toArray)[i]'(by simp; exact hl) = _
    simp
  rw [h1, UInt8.toNat_ofNat']
  omega
theorem en8_in (r : Int) (h : okc 1 r = true) : ∀ b ∈ en8 r, 0 ≤ b ∧ b ≤ 255 := by
  have hx := okc_in h
  have hx' : 0 ≤ r ∧ r ≤ 1114111 := hx
  unfold en8
  repeat' split
  all_goals
    intro b hb
    simp only [List.mem_cons, List.not_mem_nil, or_false] at hb
  · omega
  · rcases hb with rfl | rfl <;> omega
  · rcases hb with rfl | rfl | rfl <;> omega
  · rcases hb with rfl | rfl | rfl | rfl <;> omega
theorem flat_set (s0 s1 : List S.R2) (x : S.R2) (a b : Int) : ((S.flatR (s0 ++ x :: s1)).set (s0.length * 2) (.int .i64 a)).set (s0.length * 2 + 1) (.int .i64 b) = S.flatR (s0 ++ (a, b) :: s1) := by
  have e : ∀ (y : S.R2), S.flatR (s0 ++ y :: s1) = S.flatR s0 ++ (.int .i64 y.1 :: .int .i64 y.2 :: S.flatR s1) := fun y => by
    rw [S.flatR_append]
    rfl
  rw [e, e, List.set_append_right _ _ (by rw [S.length_flatR]; omega), S.length_flatR, Nat.sub_self, List.set_cons_zero, List.set_append_right _ _ (by rw [S.length_flatR]; omega), S.length_flatR, show s0.length * 2 + 1 - s0.length * 2 = 1 by omega]
  rfl
def rowS (z : List S.R2) (i : Nat) : List S.R2 := z.take i ++ List.replicate (z.length - i) (0, 0)
theorem made1 : (madeCells #[.int .i64 0, .int .i64 0] (1 * 2)).toList = S.flatR (List.replicate 1 (0, 0)) := by kernel_rfl
theorem made2 : (madeCells #[.int .i64 0, .int .i64 0] (2 * 2)).toList = S.flatR (List.replicate 2 (0, 0)) := by kernel_rfl
theorem made3 : (madeCells #[.int .i64 0, .int .i64 0] (3 * 2)).toList = S.flatR (List.replicate 3 (0, 0)) := by kernel_rfl
theorem made4 : (madeCells #[.int .i64 0, .int .i64 0] (4 * 2)).toList = S.flatR (List.replicate 4 (0, 0)) := by kernel_rfl
theorem rowS_len (z : List S.R2) (i : Nat) (h : i ≤ z.length) : (rowS z i).length = z.length := by
  unfold rowS
  rw [List.length_append, List.length_take, List.length_replicate]
  omega
theorem rowS_set (z : List S.R2) (i : Nat) (h : i < z.length) : ((S.flatR (rowS z i)).set (i * 2) (.int .i64 z[i].1)).set (i * 2 + 1) (.int .i64 z[i].2) = S.flatR (rowS z (i + 1)) := by
  have hl : (z.take i).length = i := by rw [List.length_take]; omega
  unfold rowS
  rw [show z.length - i = (z.length - (i + 1)) + 1 by omega, List.replicate_succ]
  have := flat_set (z.take i) (List.replicate (z.length - (i + 1)) (0, 0)) (0, 0) z[i].1 z[i].2
  rw [hl] at this
  rw [this, List.take_succ_eq_append_getElem h, List.append_assoc]
  rfl
theorem owe_cells {W0 wr : World} {g n cap : Nat} {s : List S.R2} (h : S.OwE W0 wr 38 (.slice (some ⟨g, 0, none⟩) n cap) s) (i : Nat) (hi : i < n) (hn : s.length = n) : (∃ u, wr.cell? ⟨g, i * 2, none⟩ = some u) ∧ (∃ u, wr.cell? ⟨g, i * 2 + 1, none⟩ = some u) ∧ ∀ j, wr.frozen? ⟨g, j, none⟩ = false := by
  subst hn
  refine ⟨?_, ?_, ?_⟩
  · have h1 := h.own.cells (g := g) rfl (2 * i) _ (S.flatR_get0 s i hi)
    rw [S.add_g, Nat.mul_comm] at h1
    exact ⟨_, h1⟩
  · have h1 := h.own.cells (g := g) rfl (2 * i + 1) _ (S.flatR_get1 s i hi)
    rw [S.add_g, Nat.mul_comm] at h1
    exact ⟨_, h1⟩
  · rcases h.own.2 with ⟨h0, _⟩ | ⟨g', cap', cur, hv, hg, hh, rest⟩
    · simp at h0
    · simp at hv
      obtain ⟨rfl, _⟩ := hv
      intro j
      simp [World.frozen?, hh]
set_option maxRecDepth 100000 in
set_option maxHeartbeats 8000000 in
theorem rowOf_any (f t : Int) (hf : okc 1 f = true) (ht : okc 1 t = true) (hl : (en8 f).length = (en8 t).length) (w : World) : Calls Tryd.prog 34 #[.agg #[.int .i64 f, .int .i64 t]] w fun e w' => ∃ v, e = .returned v ∧ S.OwE w w' 38 v (List.zip (en8 f) (en8 t)) := by
  have B := hid (block_new w #[.int .i64 f, .int .i64 t] 38)
  have TA := hid ((Touch.refl (fun _ => False) w).alloc (.cells #[.int .i64 f, .int .i64 t] 38))
  obtain ⟨sf, hsf⟩ : ∃ s, s = strOfNums (en8 f) := ⟨_, rfl⟩
  obtain ⟨st, hst⟩ : ∃ s, s = strOfNums (en8 t) := ⟨_, rfl⟩
  have HIF := hid (show ∀ i (hi : i < sf.size) (h2 : i < (en8 f).length), (sf[i].toNat : Int) = (en8 f)[i] by subst hsf; exact fun i hi h2 => at_str (en8 f) (en8_in f hf) i hi h2)
  have HIT := hid (show ∀ i (hi : i < st.size) (h2 : i < (en8 t).length), (st[i].toNat : Int) = (en8 t)[i] by subst hst; exact fun i hi h2 => at_str (en8 t) (en8_in t ht) i hi h2)
  have KF := hid (show ∀ w, Calls Tryd.prog 50 #[.int .i64 f] w fun e w' => e = .returned (.string sf) ∧ Touch (fun _ => False) w w' by rw [hsf]; exact fun w => bytesOf_any f hf w)
  have KT := hid (show ∀ w, Calls Tryd.prog 50 #[.int .i64 t] w fun e w' => e = .returned (.string st) ∧ Touch (fun _ => False) w w' by rw [hst]; exact fun w => bytesOf_any t ht w)
  have hs1 : sf.size = (en8 f).length := by rw [hsf]; exact str_size (en8 f)
  have hs2 : st.size = (en8 t).length := by rw [hst]; exact str_size (en8 t)
  clear hsf hst
  have hn := en8_len f
  go_enter Tryd.func34, Tryd.ntmps34
  go_upto_region 1 with fail
  generalize (w.alloc (.cells #[.int .i64 f, .int .i64 t] 38)) = w1 at *
  obtain ⟨q, hq⟩ : ∃ q, q = w.heap.size := ⟨_, rfl⟩
  rw [← hq] at B ⊢
  clear hq
  have c0 : w1.cell? ⟨q, 0, none⟩ = some (.int .i64 f) := by simp [World.cell?, B.out]
  have c1 : w1.cell? ⟨q, 1, none⟩ = some (.int .i64 t) := by simp [World.cell?, B.out]
  have lq := lt_of_block B.out
  first | (go_region_held3 (fun w' => w'.cell? ⟨q, 0, none⟩ = some (.int .i64 f) ∧ w'.cell? ⟨q, 1, none⟩ = some (.int .i64 t))
    (first | go_keep | exact ⟨(T3.out.cell (p := ⟨q, 0, none⟩) lq id).trans c0, (T3.out.cell (p := ⟨q, 1, none⟩) lq id).trans c1⟩ | exact ⟨(T2.out.cell (p := ⟨q, 0, none⟩) lq id).trans c0, (T2.out.cell (p := ⟨q, 1, none⟩) lq id).trans c1⟩)
    (first
      | (go_at_call 50
         refine (KF.out w1.drew).mono ?_
         rintro e w2 ⟨rfl, t2⟩
         have T2 := hid (((Touch.refl (fun _ => False) w1).drew).trans t2 (fun _ _ e => e))
         clear t2 KF)
      | (go_at_call 50
         refine (KT.out w2).mono ?_
         rintro e w3 ⟨rfl, t3⟩
         have T3 := hid (T2.out.trans t3 (fun _ _ e => e))
         clear t3 KT)
      | (go_at_call 50
         refine (KT.out w2.drew).mono ?_
         rintro e w3 ⟨rfl, t3⟩
         have T3 := hid ((T2.out.drew).trans t3 (fun _ _ e => e))
         clear t3 KT))) | fail
  obtain ⟨i0, hin, hz0, hz1, hz2⟩ := info_parts S.info33
  obtain ⟨z, hz⟩ : ∃ z, z = List.zip (en8 f) (en8 t) := ⟨_, rfl⟩
  have hzl : z.length = (en8 t).length := by rw [hz, List.length_zip, hl]; omega
  have T3w := hid (TA.out.trans T3.out (fun _ _ e => e))
  have hle4 : (en8 t).length ≤ 4 := by omega
  have hge1 : 1 ≤ (en8 t).length := by omega
  go_wp2_with (first
    | (at_make; refine wpList_make_full _ rfl _ _ 41 rfl 0 38 i0 (.agg #[.int .i64 0, .int .i64 0]) 2 Tryd.underlying41 hin hz0 hz1 .i64 .i64 _ _ (en8 t).length rfl rfl rfl rfl (by rw [hz2]; omega) (by unfold maxLen; omega) (Nat.zero_le _) ?_))
  intro w4 hown hgrow
  have HMC := hid (show (madeCells #[.int .i64 0, .int .i64 0] ((en8 t).length * 2)).toList = S.flatR (rowS z 0) by
    unfold rowS
    rw [List.take_zero, List.nil_append, Nat.sub_zero, hzl]
    rcases (show (en8 t).length = 1 ∨ (en8 t).length = 2 ∨ (en8 t).length = 3 ∨ (en8 t).length = 4 by omega) with e | e | e | e <;> rw [e]
    · exact made1
    · exact made2
    · exact made3
    · exact made4)
  have OW := hid (show S.OwE w w4 38 (.slice (some ⟨w3.heap.size, 0, none⟩) (en8 t).length (en8 t).length) (rowS z 0) from ⟨by rw [rowS_len z 0 (Nat.zero_le _), hzl, ← HMC.out]; exact hown, fun g hg => by
    simp [Value.ownBlock] at hg
    have := T3w.out.size
    omega, T3w.out.grown hgrow (fun k e => by simp at e)⟩)
  obtain ⟨g0, hg0⟩ : ∃ g, g = w3.heap.size := ⟨_, rfl⟩
  rw [← hg0] at OW ⊢
  obtain ⟨n, hnn⟩ : ∃ n, n = (en8 t).length := ⟨_, rfl⟩
  have HZ := hid hz
  have HL := hid hl
  have HSF := hid hs1
  have HST := hid hs2
  have HZL := hid hzl
  have HNN := hid hnn
  rw [← hnn] at OW hle4 hge1 ⊢
  clear hown hgrow HMC hg0 hz hl hs1 hs2 hzl hnn TA B c0 c1 T3 T2 hn T3w
  go_wp2_with fail
  go_loopg [18] n (fun gk v wq => ∃ i : Nat, i + gk = n ∧ v = .int .i64 (i : Nat) ∧ S.OwE w wq 38 (.slice (some ⟨g0, 0, none⟩) n n) (rowS z i))
  case atStart => exact ⟨0, by omega, rfl, OW.out⟩
  case round =>
    obtain ⟨i, hi, rfl, how⟩ := hrel
    have O := hid how
    clear how OW
    by_cases hlt : i < n
    · obtain ⟨gk, rfl⟩ : ∃ j, gk = j + 1 := ⟨gk - 1, by omega⟩
      have hltI : (i : Int) < (n : Int) := by omega
      have h1 : i < sf.size := by have := HSF.out; have := HL.out; have := HNN.out; omega
      have h2 : i < st.size := by have := HST.out; have := HNN.out; omega
      have h1I : (i : Int) < (sf.size : Int) := by omega
      have h2I : (i : Int) < (st.size : Int) := by omega
      have x1 := HIF.out i h1 (by have := HSF.out; omega)
      have x2 := HIT.out i h2 (by have := HST.out; omega)
      obtain ⟨x, hx⟩ : ∃ x : Nat, x = sf[i].toNat := ⟨_, rfl⟩
      obtain ⟨y, hy⟩ : ∃ y : Nat, y = st[i].toNat := ⟨_, rfl⟩
      have hbx : sf[i].toNat = x := hx.symm
      have hby : st[i].toNat = y := hy.symm
      rw [hbx] at x1
      rw [hby] at x2
      have lx : x < 256 := by rw [hx]; exact UInt8.toNat_lt _
      have ly : y < 256 := by rw [hy]; exact UInt8.toNat_lt _
      have HR := hid (rowS_set z i (by have := HZL.out; have := HNN.out; omega))
      have HZI := hid (show z[i]'(by have := HZL.out; have := HNN.out; omega) = ((x : Int), (y : Int)) by
        rw [x1, x2]
        simp only [HZ.out, List.getElem_zip])
      rw [HZI.out] at HR
      obtain ⟨⟨u1, e1⟩, ⟨u2, e2⟩, efz⟩ := owe_cells O.out i hlt (by rw [rowS_len z i (by have := HZL.out; have := HNN.out; omega)]; have := HZL.out; have := HNN.out; omega)
      have wx : IntKind.i64.wrap (x : Int) = (x : Int) := by rw [IntKind.wrap_i64]; omega
      have wy : IntKind.i64.wrap (y : Int) = (y : Int) := by rw [IntKind.wrap_i64]; omega
      have lg := World.block_lt_of_cell? wr _ e1
      clear x1 x2 hx hy HZI
      have O2 := hid (show S.OwE w ((wr.setCell ⟨g0, i * 2, none⟩ (.int .i64 (x : Int))).setCell ⟨g0, i * 2 + 1, none⟩ (.int .i64 (y : Int))) 38 (.slice (some ⟨g0, 0, none⟩) n n) (rowS z (i + 1)) from by
        have hzn : z.length = n := by have := HZL.out; have := HNN.out; omega
        have l1 := rowS_len z i (by omega)
        have l2 := rowS_len z (i + 1) (by omega)
        have ow := O.out.own
        rw [l1, hzn] at ow
        refine ⟨?_, O.out.new, ?_⟩
        · rw [l2, hzn, ← HR.out]
          exact S.own_set (S.own_set ow (i * 2) _) (i * 2 + 1) _
        · have hg := O.out.new g0 rfl
          exact (O.out.touch.setCell (p := ⟨g0, i * 2, none⟩) (fun h => by simp at h; omega) _).setCell (p := ⟨g0, i * 2 + 1, none⟩) (fun h => by simp at h; omega) _)
      clear HR
      go_upto_region 6 with fail
      go_region_held3 (fun _ => True) (trivial) (fail)
      all_goals
        go_wp2
        go_roundg gk
        case measure => omega
        case rel => exact ⟨i + 1, by omega, by go_num, ⟨O2.out.own.drew, O2.out.new, O2.out.touch.drew⟩⟩
    · have hltI : ¬ ((i : Int) < (n : Int)) := by omega
      have HE := hid (show rowS z i = List.zip (en8 f) (en8 t) by
        have hzn : z.length = n := by have := HZL.out; have := HNN.out; omega
        unfold rowS
        rw [List.take_of_length_le (by omega), show z.length - i = 0 by omega, List.replicate_zero, List.append_nil]
        exact HZ.out)
      go_wp2
      go_ret
      exact ⟨_, rfl, by rw [← HE.out]; exact O.out⟩
end Go.Proofs.YtmokfheckngfiaaDoor

/- Split's own function: a part's row, put behind those that are there; conditions: those told. -/
namespace Go.Proofs.YtmokfheckngfiaaDoor
open Go.RowKit
open Go.Lib

/-- A block that holds a list of rows that may be written; P: the older blocks that may be changed. -/
structure Rb (P : Nat → Prop) (W0 wr : World) (q : Nat) (v : Value) (o : List Value) : Prop where
  own : wr.ownsRow 0 41 1 v o.length o
  new : ∀ g, v.ownBlock = some g → P g ∨ W0.heap.size ≤ g
  blk : wr.heap[q]? = some (.cells #[v] 32 (0, 0))
  touch : Touch P W0 wr
  at_ : P q
theorem own_block41 {w : World} {v : Value} {n : Nat} {xs : List Value} (h : w.ownsRow 0 41 1 v n xs) {g : Nat} (hg : v.ownBlock = some g) : ∃ cur, w.heap[g]? = some (.cells cur 41 (0, 0)) := by
  rcases h.2 with ⟨rfl, _⟩ | ⟨b, cap, cur, rfl, _, hh, _⟩
  · simp [Value.ownBlock] at hg
  · simp [Value.ownBlock] at hg
    subst hg
    exact ⟨cur, hh⟩
theorem own_kept41 {w w' : World} {v : Value} {n : Nat} {xs : List Value} (h : w.ownsRow 0 41 1 v n xs) (hb : ∀ g, v.ownBlock = some g → w'.heap[g]? = w.heap[g]?) : w'.ownsRow 0 41 1 v n xs := by
  refine ⟨h.1, ?_⟩
  rcases h.2 with h0 | ⟨g, cap, cur, rfl, hg, hh, rest⟩
  · exact .inl h0
  · exact .inr ⟨g, cap, cur, rfl, hg, (hb g rfl).trans hh, rest⟩
theorem Rb.ne {P : Nat → Prop} {W0 wr : World} {q : Nat} {v : Value} {o : List Value} (h : Rb P W0 wr q v o) : v.ownBlock ≠ some q := fun e => by
  obtain ⟨cur, hc⟩ := own_block41 h.own e
  rw [h.blk] at hc
  simp at hc
theorem Rb.still {P : Nat → Prop} {W0 wr w' : World} {q : Nat} {v : Value} {o : List Value} (h : Rb P W0 wr q v o) (t : Touch (fun _ => False) wr w') : Rb P W0 w' q v o :=
  ⟨own_kept41 h.own (fun g hg => t.block g (lt_of_block (own_block41 h.own hg).choose_spec) id), h.new, (t.block q (lt_of_block h.blk) id).trans h.blk, h.touch.trans t (fun _ _ e => e.elim), h.at_⟩
/-- The same, seen from its own world. -/
theorem Rb.now {P : Nat → Prop} {W0 wr : World} {q : Nat} {v : Value} {o : List Value} (h : Rb P W0 wr q v o) : Rb (fun k => k = q ∨ v.ownBlock = some k) wr wr q v o :=
  ⟨h.own, fun _ hg => .inl (.inr hg), h.blk, Touch.refl _ _, .inl rfl⟩
theorem Rb.back {P : Nat → Prop} {W0 wr w' : World} {q : Nat} {v v' : Value} {o o' : List Value} (h : Rb P W0 wr q v o) (h' : Rb (fun k => k = q ∨ v.ownBlock = some k) wr w' q v' o') : Rb P W0 w' q v' o' :=
  ⟨h'.own, fun g hg => by
    rcases h'.new g hg with (e | e) | e
    · exact .inl (by rw [e]; exact h.at_)
    · exact h.new g e
    · have := h.touch.size
      exact .inr (by omega), h'.blk, h.touch.trans h'.touch (fun k hk e => by
    rcases e with e | e
    · rw [e]; exact h.at_
    · rcases h.new k e with p | p
      · exact p
      · omega), h.at_⟩
theorem Rb.app {P : Nat → Prop} {W0 wr w1 : World} {q : Nat} {v v' : Value} {o : List Value} {x : Value} {ob : Obj} (h : Rb P W0 wr q v o) (hown : w1.ownsRow 0 41 1 v' (o.length + 1) (o ++ [x])) (hg : (wr.alloc ob).grownBy w1 v.ownBlock) (hat : v'.ownBlock = v.ownBlock ∨ v'.ownBlock = some (wr.heap.size + 1)) : Rb P W0 (w1.setCell ⟨q, 0, none⟩ v') q v' (o ++ [x]) := by
  have hq := lt_of_block h.blk
  have key : w1.heap[q]? = wr.heap[q]? := by
    rw [hg.block q (by simp; omega) (fun e => h.ne e.symm), Below.heap_alloc _ _ _ hq]
  have ne' : v'.ownBlock ≠ some q := by
    rcases hat with e | e
    · rw [e]; exact h.ne
    · rw [e]
      intro z
      simp at z
      omega
  refine ⟨own_kept41 ?_ (fun g e => Below.heap_setCell _ _ _ _ (fun z => ne' (by rw [e, z]))), fun g e => ?_, block_set (key.trans h.blk) 0 v', ((h.touch.alloc ob).grown hg (fun k e hk => ?_)).setCell (fun _ => h.at_) v', h.at_⟩
  · rw [List.length_append]
    exact hown
  · rcases hat with z | z
    · exact h.new g (by rw [← z]; exact e)
    · rw [z] at e
      simp at e
      have := h.touch.size
      exact .inr (by omega)
  · rcases h.new k e with p | p
    · exact p
    · omega
theorem Rb.mid {P : Nat → Prop} {W0 wr w1 : World} {q : Nat} {v : Value} {o : List Value} {ob : Obj} (h : Rb P W0 wr q v o) (hg : (wr.alloc ob).grownBy w1 v.ownBlock) : w1.cell? ⟨q, 0, none⟩ = some v ∧ ∀ i, w1.frozen? ⟨q, i, none⟩ = false := by
  have hq := lt_of_block h.blk
  have key : w1.heap[q]? = wr.heap[q]? := by
    rw [hg.block q (by simp; omega) (fun e => h.ne e.symm), Below.heap_alloc _ _ _ hq]
  have := key.trans h.blk
  simp [World.cell?, World.frozen?, this]
theorem Rb.other {P : Nat → Prop} {W0 wr w1 : World} {q k : Nat} {v : Value} {o : List Value} {ob : Obj} (h : Rb P W0 wr q v o) (hk : k < W0.heap.size) (hP : ¬ P k) (hg : (wr.alloc ob).grownBy w1 v.ownBlock) : w1.cell? ⟨k, 0, none⟩ = wr.cell? ⟨k, 0, none⟩ := by
  have hs := h.touch.size
  have key : w1.heap[k]? = wr.heap[k]? := by
    rw [hg.block k (by simp; omega) (fun e => by
      rcases h.new k e.symm with p | p
      · exact hP p
      · omega), Below.heap_alloc _ _ _ (by omega)]
  simp only [World.cell?, key]
theorem Rb.cell {P : Nat → Prop} {W0 wr : World} {q : Nat} {v : Value} {o : List Value} (h : Rb P W0 wr q v o) : wr.cell? ⟨q, 0, none⟩ = some v ∧ ∀ i, wr.frozen? ⟨q, i, none⟩ = false := by
  simp [World.cell?, World.frozen?, h.blk]
theorem info41i : (Tryd.prog.info? 41).map (fun i => (i.zero, i.size, i.bytes)) = some (some (.slice none 0 0), 1, 24) := by kernel_rfl
theorem run_call34 (args : Array Value) (w : World) : (callFunc 34 args).run Tryd.prog w = .ok (.enter 34 args) w := by
  have h := Tryd.func34
  have h1 : (Tryd.f34.name == "runtime.NumGoroutine") = false := by kernel_rfl
  have h2 : Tryd.f34.body.isNone = false := by kernel_rfl
  have h3 : ¬ Tryd.f34.name = "runtime.NumGoroutine" := beq_eq_false_iff_ne.1 h1
  have h4 : ¬ Tryd.f34.body = none := fun e => by rw [e] at h2; cases h2
  simp [callFunc, h, h3, h4]
theorem step_call34 (w : World) {ops : Array Oper} {o : Oper} {a : Act} {K : Act → World → Prop} {Q : Exit → Act → World → Prop} {E : Prop} (hgd : o.guard = none) (s : Operand) (t1 : TypeId)
    (ho : o.op = .call { callee := .value (.func 34), args := #[s], argTypes := #[t1] })
    (v1 : Value) (hs : a.eval s = v1) (T : Value → World → Prop) (h0 : Calls Tryd.prog 34 #[v1] w fun e w' => ∃ r, e = .returned r ∧ T r w') (h : ∀ r w', T r w' → K (a.put o.dst r) w') :
    if Region.wanted o (yielded ops a.tmps) = true then Oper.wp Tryd.prog o a w K Q else E := by
  have hw : Region.wanted o (yielded ops a.tmps) = true := by simp [Region.wanted, hgd]
  rw [if_pos hw]
  obtain ⟨d, op, ty, pos, af, gd⟩ := o
  dsimp only at ho
  subst ho
  unfold Oper.wp
  rw [execOp_call_go, run_call34]
  show Calls Tryd.prog 34 (#[] ++ #[s].map a.eval ++ #[]) w _
  simp only [List.map_toArray, List.map_cons, List.map_nil, hs, Array.empty_append, Array.append_empty]
  refine h0.mono ?_
  rintro e w' ⟨r, rfl, ht⟩
  exact h r w' ht
set_option maxRecDepth 100000 in
set_option maxHeartbeats 8000000 in
theorem split1_any (f t : Int) (hf : okc 1 f = true) (ht : okc 1 t = true) (hl : (en8 f).length = (en8 t).length) (q : Nat) (v : Value) (o : List Value) (w : World) (h : Rb (fun k => k = q ∨ v.ownBlock = some k) w w q v o) (hb : o.length ≤ 1099511627) :
    Calls Tryd.prog 33 (#[.agg #[.int .i64 f, .int .i64 t]] ++ #[.pointer (some ⟨q, 0, none⟩)]) w fun e w' => e = .returned (.tuple #[]) ∧ ∃ v' a c, Rb (fun k => k = q ∨ v.ownBlock = some k) w w' q v' (o ++ [.slice a (List.zip (en8 f) (en8 t)).length c]) ∧ S.Rg w' a (List.zip (en8 f) (en8 t)) ∧ ∀ b o', a = some ⟨b, o', none⟩ → w.heap.size ≤ b := by
  have B := hid (block_new w #[.int .i64 f, .int .i64 t] 38)
  have TA := hid ((Touch.refl (fun _ => False) w).alloc (.cells #[.int .i64 f, .int .i64 t] 38))
  have O1 := hid (h.still TA.out)
  obtain ⟨z, hz⟩ : ∃ z, z = List.zip (en8 f) (en8 t) := ⟨_, rfl⟩
  have HR := hid (show ∀ w, Calls Tryd.prog 34 #[.agg #[.int .i64 f, .int .i64 t]] w fun e w' => ∃ v, e = .returned v ∧ S.OwE w w' 38 v z by rw [hz]; exact fun w => rowOf_any f t hf ht hl w)
  rw [← hz]
  clear hz
  have hqn := h.ne
  obtain ⟨av, kv, hv⟩ := own_shape h.own
  subst hv
  obtain ⟨i0, hi41, hz0, hz1, hz2⟩ := info_parts info41i
  have H := hid h
  clear h hf ht hl
  go_enter Tryd.func33, Tryd.ntmps33
  go_upto_region 1 with fail
  generalize (w.alloc (.cells #[.int .i64 f, .int .i64 t] 38)) = w1 at *
  obtain ⟨p, hp⟩ : ∃ p, p = w.heap.size := ⟨_, rfl⟩
  rw [← hp] at B ⊢
  clear hp
  have c0 : w1.cell? ⟨p, 0, none⟩ = some (.int .i64 f) := by simp [World.cell?, B.out]
  have c1 : w1.cell? ⟨p, 1, none⟩ = some (.int .i64 t) := by simp [World.cell?, B.out]
  obtain ⟨hq0, hqf⟩ := O1.out.cell
  have lq := lt_of_block O1.out.blk
  go_region_law (first
    | (refine step_call34 _ (by rfl) _ _ (by rfl) _ (by rfl) _ (HR.out _) ?_
       intro rv w2 how
       obtain ⟨ar, cr, hrv, hrg⟩ := how.rg
       subst hrv
       have T12 := hid (show Touch (fun _ => False) w1 w2 from ⟨how.touch.os, how.touch.tape, how.touch.output, how.touch.size, how.touch.block⟩)
       have O2 := hid (O1.out.still T12.out)
       have RGW := hid hrg
       have NEW := hid how.new
       clear hq0 hqf how hrg
       obtain ⟨hq0, hqf⟩ := O2.out.cell
       have hq1 : (w2.alloc (.cells #[.slice ar z.length cr] 41)).cell? ⟨q, 0, none⟩ = some (.slice av o.length kv) := by
         rw [← hq0]
         simp only [World.cell?, Below.heap_alloc _ _ _ (lt_of_block O2.out.blk)])
    | (refine step_append_own _ (by rfl) _ _ _ (by rfl) 0 41 i0 _ 1 24 Tryd.underlying32 hi41 hz0 hz1 hz2 rfl (by decide) _ _ _ (by rfl) ((O2.out.own.alloc _).drew) ⟨w2.heap.size, 0, none⟩ 1 1 [.slice ar z.length cr] (by rfl) (by rfl) (row_new w2 [.slice ar z.length cr] 41) (by intro u hu; simp at hu; subst hu; rfl) (by unfold maxLen; omega) (by omega) (Nat.zero_le _) (w2.heap.size + 1) (by simp) ?_
       intro v' w4 hown hgrow hat
       clear hq0 hqf
       obtain ⟨hq0, hqf⟩ := O2.out.mid ⟨hgrow.os, hgrow.tape, hgrow.output, hgrow.size, hgrow.block⟩
       obtain ⟨a2, k2, hv2⟩ := own_shape hown
       subst hv2))
  all_goals
    have O3 := hid (O2.out.app hown ⟨hgrow.os, hgrow.tape, hgrow.output, hgrow.size, hgrow.block⟩ hat)
    have TF := hid (show Touch (fun k => k = q ∨ (Value.slice av o.length kv).ownBlock = some k) w2 (w4.setCell ⟨q, 0, none⟩ (.slice a2 (o.length + 1) k2)) from (((Touch.refl _ w2).alloc _).grown ⟨hgrow.os, hgrow.tape, hgrow.output, hgrow.size, hgrow.block⟩ (fun k e _ => .inr e)).setCell (fun _ => .inl rfl) _)
    have RF := hid (RGW.out.kept TF.out (fun b o' hab _ hS => by
      have h1 : w1.heap.size ≤ b := NEW.out b (by rw [hab]; rfl)
      have h2 := lt_of_block H.out.blk
      have h3 := TA.out.size
      rcases hS with e | e
      · omega
      · have h4 := lt_of_block (own_block41 H.out.own e).choose_spec
        omega))
    have NB := hid (show ∀ b o', ar = some ⟨b, o', none⟩ → w.heap.size ≤ b from fun b o' hab => by
      have h1 : w1.heap.size ≤ b := NEW.out b (by rw [hab]; rfl)
      have h3 := TA.out.size
      omega)
    clear hown hgrow hat hq0 hqf hq1 O2 TF RGW NEW T12
    go_wp2
    refine bodyPost_end (results_none rfl _ _ _) rfl ?_
    exact ⟨rfl, _, ar, cr, O3.out, RF.out, NB.out⟩
end Go.Proofs.YtmokfheckngfiaaDoor

/- cut, where a range is told by one row; conditions: those told. -/
namespace Go.Proofs.YtmokfheckngfiaaDoor
open Go.RowKit
open Go.Lib

/-- What a part comes to: one row behind those that are there. -/
def PutRow (w : World) (q : Nat) (v : Value) (o : List Value) (z : List S.R2) (e : Ending) (w' : World) : Prop := e = .returned (.tuple #[]) ∧ ∃ v' a c, Rb (fun k => k = q ∨ v.ownBlock = some k) w w' q v' (o ++ [.slice a z.length c]) ∧ S.Rg w' a z ∧ ∀ b o', a = some ⟨b, o', none⟩ → w.heap.size ≤ b
set_option maxRecDepth 100000 in
set_option maxHeartbeats 8000000 in
theorem cut_none (f t fu : Nat) (hfu : fu ≤ 3) (hft : f ≤ t) (htm : t ≤ 1114111) (hno : ∀ i, i < fu → cutL f t ((i + 1) * 6) = none) (hf : okc 1 (f : Int) = true) (ht : okc 1 (t : Int) = true) (hl : (en8 (f : Int)).length = (en8 (t : Int)).length) (q : Nat) (v : Value) (o : List Value) (w : World) (h : Rb (fun k => k = q ∨ v.ownBlock = some k) w w q v o) (hb : o.length ≤ 1099511627) :
    Calls Tryd.prog 51 #[.agg #[.int .i64 (f : Nat), .int .i64 (t : Nat)], .int .i64 (fu : Nat), .func (.func 33) #[] #[.pointer (some ⟨q, 0, none⟩)]] w fun e w' => PutRow w q v o (List.zip (en8 (f : Int)) (en8 (t : Int))) e w' := by
  have B := hid (block_new w #[.int .i64 (f : Nat), .int .i64 (t : Nat)] 38)
  have TA := hid ((Touch.refl (fun _ => False) w).alloc (.cells #[.int .i64 (f : Nat), .int .i64 (t : Nat)] 38))
  have H := hid h
  have HNO := hid hno
  have KP := hid (fun w h => split1_any (f : Int) (t : Int) hf ht hl q v o w h hb)
  clear h hno hf ht hl
  generalize List.zip (en8 (f : Int)) (en8 (t : Int)) = z at *
  go_enter Tryd.func51, Tryd.ntmps51
  go_upto_region 1 with fail
  generalize (w.alloc (.cells #[.int .i64 (f : Nat), .int .i64 (t : Nat)] 38)) = w1 at *
  obtain ⟨p, hp⟩ : ∃ p, p = w.heap.size := ⟨_, rfl⟩
  rw [← hp] at B ⊢
  clear hp
  go_wp2_with fail
  go_loopg [10] fu (fun gk v10 wq => ∃ i : Nat, i + gk = fu ∧ v10 = .int .i64 (i : Nat) ∧ Touch (fun _ => False) w1 wq)
  case atStart => exact ⟨0, by omega, rfl, Touch.refl _ _⟩
  case round =>
    obtain ⟨i, hi, rfl, htc⟩ := hrel
    have TC := hid htc
    clear htc
    have BR := hid ((TC.out.block p (lt_of_block B.out) id).trans B.out)
    have c0 : wr.cell? ⟨p, 0, none⟩ = some (.int .i64 (f : Nat)) := by simp [World.cell?, BR.out]
    have c1 : wr.cell? ⟨p, 1, none⟩ = some (.int .i64 (t : Nat)) := by simp [World.cell?, BR.out]
    by_cases hlt : i < fu
    · obtain ⟨gk, rfl⟩ : ∃ j, gk = j + 1 := ⟨gk - 1, by omega⟩
      have hltI : (i : Int) < (fu : Int) := by omega
      have KC := hid (cutAt_any f t ((i + 1) * 6) (by omega) hft htm wr)
      rw [HNO.out i hlt, show (((i + 1) * 6 : Nat) : Int) = ((i : Int) + 1) * 6 by omega] at KC
      unfold cutV at KC
      go_wp2_with fail
      refine KC.out.mono ?_
      rintro e w2 ⟨rfl, t2⟩
      have T2 := hid (TC.out.trans t2 (fun _ _ e => e))
      clear t2 KC c0 c1 BR TC
      go_wp2
      go_roundg gk
      case measure => omega
      case rel => exact ⟨i + 1, by omega, by go_num, T2.out⟩
    · have hltI : ¬ ((i : Int) < (fu : Int)) := by omega
      have O := hid (H.out.still (TA.out.trans TC.out (fun _ _ e => e)))
      have KK := hid (KP.out wr O.out.now)
      go_wp2_with fail
      refine KK.out.mono ?_
      rintro e w2 ⟨rfl, v2, a2, c2, hrb, hrg, hnb⟩
      have O2 := hid (O.out.back hrb)
      have RG := hid hrg
      have NB := hid (show ∀ b o', a2 = some ⟨b, o', none⟩ → w.heap.size ≤ b from fun b o' hab => by
        have h1 := hnb b o' hab
        have h2 := (TA.out.trans TC.out (fun _ _ e => e)).size
        omega)
      clear hrb hrg hnb KK c0 c1
      go_wp2
      refine bodyPost_end (results_none rfl _ _ _) rfl ?_
      exact ⟨rfl, v2, a2, c2, O2.out, RG.out, NB.out⟩
end Go.Proofs.YtmokfheckngfiaaDoor
