/- Texts of this proof, one behind the other: what each says stands ahead of it. -/
import Derived.Test.YtaidcapflcobiaaM5
import Derived.Laws.BytesArg
import Derived.Lib.AppendStr
import Derived.Test.YtaidcapflcobiaaM0
import Derived.Test.YtaidcapflcobiaaRows
import Derived.WalkKit
import Derived.ProofKit
import Derived.OpenShut
import Derived.ShutString
import Derived.ChangeOld
import Derived.ChangeMaps5
import Derived.Below
import Derived.SizedLaws
import Derived.Deep.Slices
import Derived.Lib.SmallJoins
import Derived.Deep.CondSized
/- LinesBack's walk; condition: the text fits into memory. -/
namespace Go.Proofs.Ytaidcapflcobiaa
open Go.RowKit
open Go.Lib

theorem info5 : (Try.prog.info? 5).map (fun i => (i.zero, i.size, i.bytes)) = some (some (.int .u8 0), 1, 1) := by kernel_rfl
def encB (o : List Int) : List Value := o.map (.int .u8)
theorem run_append_string_at {P : Program} (w : World) (t u ty e : TypeId) (i : TypeInfo) (ht : P.underlying t = some (.slice e)) (hu : P.underlying u = some .string) (hi : P.info? e = some i) (hz : i.zero = some (.int .u8 0))
    (hsize : i.size = 1) (hby : i.bytes = 1) (v : Value) (n : Nat) (xs : List Value) (hown : w.ownsRow 0 e 1 v n xs) (s : ByteArray) (h63 : n + s.size ≤ maxLen) (hbytes : n + s.size ≤ 140737488355328) :
    ∃ v' w', (Builtin.append_ #[t, u] ty #[v, .string s]).run P w = .ok v' w' ∧ w'.ownsRow 0 e 1 v' (n + s.size) (xs ++ strCells s) ∧ w.grownBy w' v.ownBlock ∧
      (v'.ownBlock = v.ownBlock ∨ ∃ g, v'.ownBlock = some g ∧ w.heap.size ≤ g) := by
  rcases hown.2 with ⟨rfl, rfl⟩ | ⟨g, cap, cur, rfl, _, hg, hnc, hcm, hcs, htake⟩
  · have hx : xs = [] := List.eq_nil_of_length_eq_zero (by simpa using hown.1)
    subst hx
    obtain ⟨v', w', hr, h2, h3, h4⟩ := run_append_own_string (P := P) w w.heap.size t u ty e i ht hu hi hz hsize hby _ _ _ (World.ownsRow_nil w w.heap.size e 1) s h63 hbytes (Nat.le_refl _)
    refine ⟨v', w', hr, ⟨h2.1, ?_⟩, h3, ?_⟩
    · rcases h2.2 with h | ⟨g, cap, cur, hv, _, hh, r⟩
      · exact .inl h
      · exact .inr ⟨g, cap, cur, hv, Nat.zero_le _, hh, r⟩
    · rcases h2.2 with ⟨rfl, _⟩ | ⟨g, cap, cur, rfl, hg, _⟩
      · exact .inl rfl
      · exact .inr ⟨g, rfl, hg⟩
  · obtain ⟨v', w', hr, h2, h3, h4⟩ := run_append_own_string (P := P) w 0 t u ty e i ht hu hi hz hsize hby _ _ _ hown s h63 hbytes (Nat.zero_le _)
    refine ⟨v', w', hr, h2, h3, ?_⟩
    by_cases hroom : n + s.size ≤ cap
    · have hcs' : cur.size = cap := by simpa using hcs
      have hr2 := run_append_room_string (P := P) w t u ty e i ht hu hi hsize g n cap cur hg s hroom (by omega)
      rw [hr] at hr2
      simp only [Result.ok.injEq] at hr2
      rw [hr2.1]
      exact .inl rfl
    · have holds : ∀ j u, xs[j]? = some u → w.cell? ((⟨g, 0, none⟩ : Addr).add j) = some u := hown.cells (g := g) rfl
      have hr2 := run_append_grow_string (P := P) w t u ty e i (.int .u8 0) ht hu hi hz ⟨g, 0, none⟩ n cap xs (by rw [hsize]; exact hown.1) holds s (by omega) (by unfold maxLen at h63; omega) (by rw [hby]; exact growslice_fits (by omega) (by omega))
      rw [hr] at hr2
      simp only [Result.ok.injEq] at hr2
      rw [hr2.1]
      exact .inr ⟨_, rfl, Nat.le_refl _⟩

theorem step_append_string {P : Program} (w : World) {ops : Array Oper} {o : Oper} {a : Act} {K : Act → World → Prop} {Q : Exit → Act → World → Prop} {E : Prop} (hgd : o.guard = none) (sl x : Operand) (t u : TypeId)
    (ho : o.op = .call { callee := .builtin .append, args := #[sl, x], argTypes := #[t, u] })
    (e : TypeId) (i : TypeInfo) (ht : P.underlying t = some (.slice e)) (hu : P.underlying u = some .string) (hi : P.info? e = some i) (hz : i.zero = some (.int .u8 0)) (hsize : i.size = 1) (hby : i.bytes = 1)
    (v : Value) (n : Nat) (xs : List Value) (hs : a.eval sl = v) (hown : w.ownsRow 0 e 1 v n xs) (s : ByteArray) (hx : a.eval x = .string s) (h63 : n + s.size ≤ maxLen) (hbytes : n + s.size ≤ 140737488355328)
    (h : ∀ v' w', w'.ownsRow 0 e 1 v' (n + s.size) (xs ++ strCells s) → w.grownBy w' v.ownBlock → (v'.ownBlock = v.ownBlock ∨ ∃ g, v'.ownBlock = some g ∧ w.heap.size ≤ g) → K (a.put o.dst v') w') :
    if Region.wanted o (yielded ops a.tmps) = true then Oper.wp P o a w K Q else E := by
  have hw : Region.wanted o (yielded ops a.tmps) = true := by simp [Region.wanted, hgd]
  rw [if_pos hw]
  obtain ⟨v', w', hr, h2, h3, h4⟩ := run_append_string_at (P := P) w t u o.type e i ht hu hi hz hsize hby v n xs hown s h63 hbytes
  unfold Oper.wp execOp
  simp only [ho, resolve, invoke, builtin, Sem.run_bind, Sem.run_pure, Result.andThen_ok, List.map_toArray, List.map_cons, List.map_nil, hs, hx, hr]
  exact h v' w' h2 h3 h4

theorem conv_own {w : World} {v : Value} {o : List Int} (h : w.ownsRow 0 5 1 v o.length (encB o)) : (convert 25 9 v).run Try.prog w = .ok (.string (strOfNums o)) w := by
  rcases h.2 with ⟨rfl, h0⟩ | ⟨g, cap, cur, rfl, hg, hh, rest⟩
  · obtain rfl := List.eq_nil_of_length_eq_zero h0
    rw [run_convert_bytes_string w 25 9 5 _ _ _ Try.underlying25 Try.underlying5 Try.underlying9]
    simp [Conv.bytesToString, strOfNums]
    rfl
  · refine run_convert_bytes_arg w 25 5 Try.underlying25 Try.underlying5 g 0 o.length cap o rfl (fun i hi => ?_) 9 Try.underlying9
    have := h.cells (g := g) rfl i (.int .u8 (o.getD i 0)) (by simp [encB, hi])
    rw [add_g] at this
    rwa [Nat.zero_add]

/-- A list of bytes that is the call's own. -/
structure OwB (W0 wr : World) (v : Value) (o : List Int) : Prop where
  own : wr.ownsRow 0 5 1 v o.length (encB o)
  new : ∀ g, v.ownBlock = some g → W0.heap.size ≤ g
  touch : Touch (fun _ => False) W0 wr
theorem OwB.nil (w : World) : OwB w w (.slice none 0 0) [] := ⟨World.ownsRow_nil _ _ _ _, by intro g h; simp [Value.ownBlock] at h, Touch.refl _ _⟩
theorem OwB.more {W0 wr wa w1 : World} {v v' : Value} {o m : List Int} (h : OwB W0 wr v o) (ta : Touch (fun _ => False) wr wa) (hown : w1.ownsRow 0 5 1 v' (o.length + m.length) (encB o ++ encB m)) (hg : wa.grownBy w1 v.ownBlock) (hat : v'.ownBlock = v.ownBlock ∨ ∃ g, v'.ownBlock = some g ∧ wr.heap.size ≤ g) : OwB W0 w1 v' (o ++ m) := by
  refine ⟨?_, fun g hg' => ?_, (h.touch.trans ta (fun _ _ e => e)).grown hg (fun k e hk => by have := h.new k e; omega)⟩
  · rw [List.length_append, encB, List.map_append]
    exact hown
  · rcases hat with e | ⟨g', e, hl⟩
    · exact h.new g (by rw [← e]; exact hg')
    · rw [e] at hg'
      cases hg'
      have := h.touch.size
      omega
def numL (cs : List UInt8) : List Int := cs.map fun b => (b.toNat : Int)
theorem strCells_num (s : ByteArray) : strCells s = encB (numL s.data.toList) := by unfold encB numL strCells; rw [List.map_map]; rfl
theorem numL_len (cs : List UInt8) : (numL cs).length = cs.length := by simp [numL]

/-- A line's bytes, with a newline. -/
def lineB (D : List UInt8) (x : R2) : List UInt8 := (D.drop x.1.toNat).take (x.2.toNat - x.1.toNat) ++ [10]
def backL (D : List UInt8) (l : List R2) : List UInt8 := l.flatMap (lineB D)
theorem backL_snoc (D : List UInt8) (l : List R2) (x : R2) : backL D (l ++ [x]) = backL D l ++ lineB D x := by simp [backL]
/-- The newline that is put at the end, where there is none. -/
def tailNl : List UInt8 → Bool → List UInt8
  | [], o => if o = true then [10] else []
  | c :: cs, _ => if c = 10 then tailNl cs false else tailNl cs true
theorem back_go (D : List UInt8) : ∀ (cs : List UInt8) (fr cur : Nat), fr ≤ cur → D.drop cur = cs → cur ≤ D.length → backL D (lnsGo cs fr cur) = (D.drop fr).take (cur - fr) ++ cs ++ tailNl cs (decide (fr < cur))
  | [], fr, cur, h, hd, hl => by
    rw [lnsGo, tailNl]
    by_cases hf : fr < cur
    · rw [if_pos hf, decide_eq_true hf, if_pos rfl]
      simp [backL, lineB]
    · rw [if_neg hf, decide_eq_false hf, show cur - fr = 0 by omega]
      simp [backL]
  | c :: cs, fr, cur, h, hd, hl => by
    have hcur : cur < D.length := by
      rcases Nat.lt_or_ge cur D.length with k | k
      · exact k
      · rw [List.drop_eq_nil_of_le k] at hd; cases hd
    rw [List.drop_eq_getElem_cons hcur] at hd
    obtain ⟨h1, h2⟩ := List.cons.inj hd
    rw [lnsGo, tailNl]
    by_cases hc : c = 10
    · rw [if_pos hc, if_pos hc]
      have ih := back_go D cs (cur + 1) (cur + 1) (Nat.le_refl _) h2 (by omega)
      rw [decide_eq_false (Nat.lt_irrefl _), Nat.sub_self, List.take_zero, List.nil_append] at ih
      show lineB D ((fr : Int), (cur : Int)) ++ backL D (lnsGo cs (cur + 1) (cur + 1)) = _
      rw [ih]
      unfold lineB
      simp [hc]
    · rw [if_neg hc, if_neg hc]
      have ih := back_go D cs fr (cur + 1) (by omega) h2 (by omega)
      rw [decide_eq_true (show fr < cur + 1 by omega)] at ih
      rw [ih]
      have e : (D.drop fr).take (cur + 1 - fr) = (D.drop fr).take (cur - fr) ++ [c] := by
        have hlt : cur - fr < (D.drop fr).length := by rw [List.length_drop]; omega
        rw [show cur + 1 - fr = (cur - fr) + 1 by omega, List.take_succ_eq_append_getElem hlt, List.getElem_drop]
        simp only [show fr + (cur - fr) = cur by omega, h1]
      rw [e]
      simp
theorem back_lns (d : ByteArray) : backL d.data.toList (lns d) = d.data.toList ++ tailNl d.data.toList false := by
  have := back_go d.data.toList d.data.toList 0 0 (Nat.le_refl _) rfl (Nat.zero_le _)
  simpa [lns] using this
theorem len_go : ∀ (cs : List UInt8) (fr cur : Nat), fr ≤ cur → (lnsGo cs fr cur).length = nlc cs + (tailNl cs (decide (fr < cur))).length
  | [], fr, cur, _ => by
    rw [lnsGo, tailNl]
    by_cases hf : fr < cur
    · rw [if_pos hf, decide_eq_true hf]; rfl
    · rw [if_neg hf, decide_eq_false hf]; rfl
  | c :: cs, fr, cur, h => by
    rw [lnsGo, tailNl, nlc_cons]
    by_cases hc : c = 10
    · rw [if_pos hc, if_pos hc, if_pos hc, List.length_cons, len_go cs (cur + 1) (cur + 1) (Nat.le_refl _), decide_eq_false (Nat.lt_irrefl _)]
      omega
    · rw [if_neg hc, if_neg hc, if_neg hc, len_go cs fr (cur + 1) (by omega), decide_eq_true (show fr < cur + 1 by omega)]
      rfl
theorem len_lns (d : ByteArray) : (lns d).length = nlc d.data.toList + (tailNl d.data.toList false).length := by
  have := len_go d.data.toList 0 0 (Nat.le_refl _)
  simpa [lns] using this
theorem tail_last : ∀ (cs : List UInt8) (o : Bool) (h : 0 < cs.length), tailNl cs o = if cs[cs.length - 1]'(by omega) = 10 then [] else [10]
  | [], _, h => by simp at h
  | [c], o, _ => by
    rw [tailNl]
    by_cases hc : c = 10
    · simp [hc, tailNl]
    · simp [hc, tailNl]
  | c :: c' :: cs, o, _ => by
    rw [tailNl]
    have ih := fun o' => tail_last (c' :: cs) o' (by simp)
    have e : (c :: c' :: cs)[(c :: c' :: cs).length - 1]'(by simp) = (c' :: cs)[(c' :: cs).length - 1]'(by simp) := by
      simp only [List.length_cons, Nat.add_sub_cancel]
      rfl
    rw [e]
    split
    · exact ih false
    · exact ih true
theorem back_len (D : List UInt8) : ∀ l : List R2, (backL D l).length ≤ l.length * (D.length + 1)
  | [] => by simp [backL]
  | x :: l => by
    have ih := back_len D l
    have e : backL D (x :: l) = lineB D x ++ backL D l := by simp [backL]
    have h : (lineB D x).length ≤ D.length + 1 := by
      unfold lineB
      rw [List.length_append, List.length_take, List.length_drop]
      simp only [List.length_cons, List.length_nil]
      omega
    rw [e, List.length_append, List.length_cons, Nat.add_mul]
    omega
theorem list_ne {d : ByteArray} (h : ¬ d.size = 0) : ¬ d.toList = [] := by
  intro e
  rw [ByteArray.toList_eq] at e
  have := congrArg List.length e
  rw [Array.length_toList] at this
  exact h this
theorem app_nl (d : ByteArray) : (⟨(d.data.toList ++ [10]).toArray⟩ : ByteArray) = d ++ ⟨#[10]⟩ := by
  apply ByteArray.ext
  rw [ByteArray.data_append]
  apply Array.toList_inj.1
  simp
theorem str_num (cs : List UInt8) : strOfNums (numL cs) = ⟨cs.toArray⟩ := by
  unfold strOfNums numL
  rw [List.map_map]
  congr 2
  have : ((fun n : Int => UInt8.ofNat n.toNat) ∘ fun b : UInt8 => (b.toNat : Int)) = id := by
    funext b
    simp
  rw [this, List.map_id]

set_option maxRecDepth 100000 in
set_option maxHeartbeats 4000000 in
theorem linesBack_walk (d : ByteArray) (w : World) (hd : d.size ≤ 1048576) :
    Calls Try.prog 3 #[.string d] w fun e w' => e = .returned (.bool true) ∧ Below w.heap.size w w' := by
  obtain ⟨i0, hi5, hz0, hz1, hz2⟩ := info_parts info5
  have hln := lns_len d
  go_enter Try.func3, Try.ntmps3
  go_wp2_with fail
  refine (speaks_yes w).mono ?_
  rintro e w1 ⟨rfl, t1⟩
  have T1 := hid t1
  clear t1
  have K := hid (split_any d (by omega) w1)
  go_wp2_with fail
  refine K.out.mono ?_
  rintro e w2 ⟨a, c, rfl, hr, _, _, t2⟩
  have T2 := hid (T1.out.trans t2 (fun _ _ e => e))
  have R2 := hid hr
  clear K t2 hr T1
  go_wp2_with fail
  go_loopg [4, 5] (lns d).length (fun gk v i wr => ∃ k : Nat, k + gk = (lns d).length ∧ i = .int .i64 (k : Nat) ∧ OwB w2 wr v (numL (backL d.data.toList ((lns d).take k))))
  case atStart => exact ⟨0, by omega, rfl, OwB.nil _⟩
  case round =>
    obtain ⟨k, hk, rfl, hown⟩ := hrel
    have OW := hid hown
    obtain ⟨a4, c4, hv4⟩ := own_shape hown.own
    subst hv4
    clear hown
    by_cases hlt : k < (lns d).length
    · obtain ⟨b, o, ha, hbl, hcell⟩ : ∃ b o, a = some ⟨b, o, none⟩ ∧ b < w2.heap.size ∧ ∀ i (h : i < (lns d).length), w2.cell? ⟨b, o + i * 2, none⟩ = some (.int .i64 ((lns d)[i]).1) ∧ w2.cell? ⟨b, o + i * 2 + 1, none⟩ = some (.int .i64 ((lns d)[i]).2) := by
        rcases R2.out with h | h
        · rw [h] at hlt; simp at hlt
        · exact h
      subst ha
      obtain ⟨d0, d1⟩ := hcell k hlt
      have HT := hid (show (lns d).take (k + 1) = (lns d).take k ++ [(lns d)[k]] from List.take_succ_eq_append_getElem hlt)
      have hbd := lns_in d (lns d)[k] (List.getElem_mem _)
      obtain ⟨r, hr⟩ : ∃ r, r = (lns d)[k] := ⟨_, rfl⟩
      rw [← hr] at d0 d1 HT hbd
      obtain ⟨y, z⟩ := r
      dsimp only at d0 d1 HT hbd
      obtain ⟨yn, rfl⟩ : ∃ n : Nat, y = n := ⟨y.toNat, by omega⟩
      obtain ⟨zn, rfl⟩ : ∃ n : Nat, z = n := ⟨z.toNat, by omega⟩
      have hyz : yn ≤ zn := by omega
      have hzd : zn ≤ d.size := by omega
      have hkI : (k : Int) < ((lns d).length : Int) := by omega
      have hbk := back_len d.data.toList ((lns d).take k)
      have hbk2 : (numL (backL d.data.toList ((lns d).take k))).length ≤ 1048576 * 1048577 := by
        rw [numL_len]
        refine Nat.le_trans hbk (Nat.mul_le_mul ?_ ?_)
        · rw [List.length_take]; omega
        · rw [Array.length_toList]; exact Nat.succ_le_succ hd
      obtain ⟨B0, hB0⟩ : ∃ B0, B0 = numL (backL d.data.toList ((lns d).take k)) := ⟨_, rfl⟩
      rw [← hB0] at OW hbk2 ⊢
      have HB0 := hid hB0
      have hxs : (d.extract yn zn).size ≤ 1048576 := by rw [ByteArray.size_extract]; omega
      have HX := hid (show strCells (d.extract yn zn) = encB (numL ((d.data.toList.drop yn).take (zn - yn))) from by rw [strCells_num, ByteArray.data_extract, Array.toList_extract, List.extract_eq_take_drop])
      have HXL := hid (show (d.extract yn zn).size = (numL ((d.data.toList.drop yn).take (zn - yn))).length from by
        have e : d.data.size = d.size := rfl
        simp only [numL_len, List.length_take, List.length_drop, Array.length_toList, ByteArray.size_extract]
        omega)
      clear hcell hr hbk hB0
      have HB2 := hid hbl
      have D02 := hid d0
      have D12 := hid d1
      replace d0 := (OW.out.touch.cell (p := ⟨b, _, none⟩) hbl id).trans d0
      replace d1 := (OW.out.touch.cell (p := ⟨b, _, none⟩) hbl id).trans d1
      have HBL := hid (Nat.lt_of_lt_of_le hbl OW.out.touch.size)
      clear hbl
      go_upto_region 8 with fail
      go_cut [4] (fun v wd => OwB w2 wd v (B0 ++ numL ((d.data.toList.drop yn).take (zn - yn))))
      case first =>
        go_region_held3 (fun w' => w'.cell? ⟨b, o + k * 2, none⟩ = some (.int .i64 (yn : Nat)) ∧ w'.cell? ⟨b, o + k * 2 + 1, none⟩ = some (.int .i64 (zn : Nat)))
          (first
           | exact ⟨d0, d1⟩
           | exact K4.out
           | exact ⟨(Touch.cell (S := fun _ => False) (w := wr) (by repeat (first | exact Touch.refl _ _ | refine Touch.alloc ?_ _ | refine Touch.drew ?_ | refine Touch.drewN ?_ _)) (p := ⟨b, _, none⟩) HBL.out id).trans d0, (Touch.cell (S := fun _ => False) (w := wr) (by repeat (first | exact Touch.refl _ _ | refine Touch.alloc ?_ _ | refine Touch.drew ?_ | refine Touch.drewN ?_ _)) (p := ⟨b, _, none⟩) HBL.out id).trans d1⟩)
          ((refine step_append_string _ (by rfl) _ _ _ _ (by rfl) 5 i0 Try.underlying25 Try.underlying9 hi5 hz0 hz1 hz2 (.slice a4 B0.length c4) B0.length (encB B0) (by rfl) (own_keepT OW.out.own (by repeat (first | exact Touch.refl _ _ | refine Touch.alloc ?_ _ | refine Touch.drew ?_ | refine Touch.drewN ?_ _))) (d.extract yn zn) (by rfl) (by unfold maxLen; omega) (by omega) ?_
            intro v4 w4 hown hgrow hat
            rw [HX.out, HXL.out] at hown
            have OB := hid (OW.out.more (by repeat (first | exact Touch.refl _ _ | refine Touch.alloc ?_ _ | refine Touch.drew ?_ | refine Touch.drewN ?_ _)) hown hgrow hat)
            have K4 := hid (show w4.cell? ⟨b, o + k * 2, none⟩ = some (.int .i64 (yn : Nat)) ∧ w4.cell? ⟨b, o + k * 2 + 1, none⟩ = some (.int .i64 (zn : Nat)) from ⟨(OB.out.touch.cell (p := ⟨b, _, none⟩) HB2.out id).trans D02.out, (OB.out.touch.cell (p := ⟨b, _, none⟩) HB2.out id).trans D12.out⟩)
            clear hown hgrow hat))
        all_goals go_wp2
        all_goals go_meet
        all_goals exact OB.out
      have OC := hid hcut
      obtain ⟨a5, c5, hv5⟩ := own_shape hcut.own
      subst hv5
      clear hcut d0 d1 OW
      have hbk3 : (B0 ++ numL ((d.data.toList.drop yn).take (zn - yn))).length ≤ 1048576 * 1048577 + 1048576 := by
        rw [List.length_append, ← HXL.out]
        omega
      obtain ⟨B1, hB1⟩ : ∃ B1, B1 = B0 ++ numL ((d.data.toList.drop yn).take (zn - yn)) := ⟨_, rfl⟩
      rw [← hB1] at OC hbk3 ⊢
      have HB1 := hid hB1
      clear hB1
      go_wp2_with (at_builtin; refine wpList_append_own_at _ rfl _ _ 25 rfl 0 5 i0 (.int .u8 0) 1 1 Try.underlying25 hi5 hz0 hz1 hz2 rfl (by decide) _ _ _ rfl (OC.out.own.alloc _) ⟨wc.heap.size, 0, none⟩ 1 1 [.int .u8 10] rfl rfl (row_new wc [.int .u8 10] 5) (by intro u hu; simp at hu; subst hu; rfl) (by unfold maxLen; omega) (by omega) (Nat.zero_le _) ?_)
      intro v6 w6 hown hgrow _ hat
      have OD := hid (OC.out.more (m := [10]) ((Touch.refl _ _).alloc _) hown hgrow (by
        rcases hat with e | e
        · exact .inl e
        · exact .inr ⟨_, e, by simp⟩))
      clear hown hgrow hat
      go_wp2
      go_roundg (gk - 1)
      case measure => omega
      case rel =>
        refine ⟨k + 1, by omega, by go_num, ?_⟩
        rw [HT.out, backL_snoc]
        have e : numL (backL d.data.toList ((lns d).take k) ++ lineB d.data.toList ((yn : Int), (zn : Int))) = B1 ++ [10] := by
          rw [HB1.out, HB0.out]
          simp [numL, lineB]
        rw [e]
        exact OD.out
    · obtain rfl : k = (lns d).length := by omega
      rw [List.take_length, back_lns] at OW
      rw [List.take_length, back_lns]
      go_wp2_with fail
      go_loopg [6, 7] d.size (fun gk2 n i wq => ∃ k : Nat, k + gk2 = d.size ∧ i = .int .i64 (k : Nat) ∧ n = .int .i64 (nlc (d.data.toList.take k) : Nat) ∧ wr = wq)
      case atStart => exact ⟨0, by omega, rfl, rfl, rfl⟩
      case round =>
        obtain ⟨k, hk, rfl, rfl, rfl⟩ := hrel
        have hnl := nlc_le (d.data.toList.take k)
        rw [List.length_take] at hnl
        by_cases hlt : k < d.size
        · have HST := hid (nlc_step d k hlt)
          obtain ⟨m, hm⟩ : ∃ m, m = nlc (d.data.toList.take k) := ⟨_, rfl⟩
          rw [← hm] at HST hnl ⊢
          clear hm
          by_cases h10 : (d[k]).toNat = 10
          · have hx : ((d[k]).toNat : Int) = 10 := by omega
            have HN := hid (show nlc (d.data.toList.take (k + 1)) = m + 1 from by rw [HST.out, if_pos ((ten_iff _).2 hx)])
            go_wp2
            go_roundg (gk - 1)
            case measure => omega
            case rel => exact ⟨k + 1, by omega, by go_num, by rw [HN.out]; go_num, rfl⟩
          · have hx : ¬ ((d[k]).toNat : Int) = 10 := by omega
            have HN := hid (show nlc (d.data.toList.take (k + 1)) = m from by rw [HST.out, if_neg (fun e => hx ((ten_iff _).1 e))]; rfl)
            go_wp2
            go_roundg (gk - 1)
            case measure => omega
            case rel => exact ⟨k + 1, by omega, by go_num, by rw [HN.out], rfl⟩
        · obtain rfl : k = d.size := by omega
          have ht : d.data.toList.take d.size = d.data.toList := List.take_of_length_le (by simp)
          rw [ht] at hnl ⊢
          have hlen := len_lns d
          have hcv := conv_own OW.out.own
          rw [str_num] at hcv
          have TZ := hid ((T2.out.trans OW.out.touch (fun _ _ e => e)).below _ (Nat.le_refl _) (fun _ e => e.elim))
          have hnl2 : nlc d.data.toList ≤ 1048576 := by
            have : min d.size d.data.toList.length ≤ d.size := Nat.min_le_left _ _
            omega
          obtain ⟨N, hN⟩ : ∃ N, N = nlc d.data.toList := ⟨_, rfl⟩
          rw [← hN] at hlen hnl2 ⊢
          clear hN hnl ht
          obtain ⟨M, hM⟩ : ∃ M, M = (numL (d.data.toList ++ tailNl d.data.toList false)).length := ⟨_, rfl⟩
          rw [← hM] at hcv ⊢
          clear hM OW R2 T2
          by_cases h0 : d.size = 0
          · have hde : d = ⟨#[]⟩ := by
              obtain ⟨⟨l⟩⟩ := d
              have : l = [] := List.eq_nil_of_length_eq_zero h0
              rw [this]
            have hT : tailNl d.data.toList false = [] := by rw [hde]; rfl
            rw [hT] at hlen hcv
            simp only [List.length_nil, Nat.add_zero, List.append_nil] at hlen hcv
            rw [show (⟨d.data.toList.toArray⟩ : ByteArray) = d by rfl] at hcv
            rw [hlen]
            clear hT hlen
            subst hde
            go_wp2
            go_ret
            exact ⟨rfl, TZ.out⟩
          · have hlast : (d.data.toList)[d.data.toList.length - 1]'(by simp; omega) = d[d.size - 1]'(by omega) := by
              simp
              rfl
            have hT := tail_last d.data.toList false (by simp; omega)
            rw [hlast] at hT
            have hne : ¬ d.toList = [] := list_ne h0
            have hne2 : d.toList.isEmpty = false := by
              cases hl : d.toList with
              | nil => exact absurd hl hne
              | cons _ _ => rfl
            by_cases h10 : (d[d.size - 1]'(by omega)).toNat = 10
            · have hx : ((d[d.size - 1]'(by omega)).toNat : Int) = 10 := by omega
              rw [if_pos ((ten_iff _).2 hx)] at hT
              rw [hT] at hlen hcv
              simp only [List.length_nil, Nat.add_zero, List.append_nil] at hlen hcv
              rw [show (⟨d.data.toList.toArray⟩ : ByteArray) = d by rfl] at hcv
              rw [hlen]
              clear hT hlen hlast
              go_wp2
              all_goals
                go_ret
                exact ⟨rfl, TZ.out⟩
            · have hx : ¬ ((d[d.size - 1]'(by omega)).toNat : Int) = 10 := by omega
              rw [if_neg (fun e => hx ((ten_iff _).1 e))] at hT
              rw [hT] at hlen hcv
              have hap : (⟨(d.data.toList ++ [10]).toArray⟩ : ByteArray) = d ++ ⟨#[10]⟩ := app_nl d
              have hxb : (((d[d.size - 1]'(by omega)).toNat : Int) == 10) = false := by simpa using hx
              rw [hap] at hcv
              rw [hlen]
              clear hT hlen hlast hap
              go_wp2
              all_goals
                go_ret
                exact ⟨rfl, TZ.out⟩
end Go.Proofs.Ytaidcapflcobiaa

/- What the laws' frames want, and a list of pairs that a call is handed; no condition. -/
namespace Go.Proofs.Ytaidcapflcobiaa
open Go.ChangeShapes Go.WideShapes Go.ChangeAt Go.RowKit Go.Deep Go.Joins

theorem own : ownKnob Try.prog.godebug = none := by kernel_rfl
theorem laidOut : laidOutB Try.prog = true := by kernel_rfl
theorem tc3 : Try.prog.cellsOf 3 = 1 := by kernel_rfl
theorem cells36 : Try.prog.cellsOf 36 = 2 := by kernel_rfl
theorem two_of {l : List Value} (h : l.length = 2) : ∃ a b, l = [a, b] := by
  match l, h with
  | [a, b], _ => exact ⟨a, b, rfl⟩
def rangeD {H : Type} (q : R2) : DataW H := .agg [.lit (.int .i64 q.1), .lit (.int .i64 q.2)]
theorem open_pairs {H : Type} {enc : TypeId × Value → H} {W : World} {a : Option Addr} {len cap : Nat} {d : DataW H} {p : List MemPlace}
    (h : DataW.Trod enc Try.prog W 0 (fun _ => true) true 35 (.slice a len cap) d p) :
    (a = none ∧ len = 0 ∧ cap = 0 ∧ d = .nil) ∨ ∃ (x : Addr) (q : Nat → R2) (sp : List (DataW H)), a = some x ∧ len ≤ cap ∧ sp.length = cap - len ∧
      d = .slice ((List.range len).map fun i => rangeD (q i)) sp ∧
      ∀ i, i < len → W.cell? (x.add (i * 2)) = some (.int .i64 (q i).1) ∧ W.cell? (x.add (i * 2 + 1)) = some (.int .i64 (q i).2) := by
  obtain ⟨fuel, hf⟩ := h
  rcases open_slice Try.underlying35 hf with ⟨hcs, hx⟩ | ⟨x, l, c, m, n, D, Pl, hcs, _, hl, _, hmm, hx, hel⟩
  · simp [Value.cells] at hcs
    obtain ⟨rfl, rfl, rfl⟩ := hcs
    simp only [Prod.mk.injEq] at hx
    exact .inl ⟨rfl, rfl, rfl, hx.1⟩
  · simp [Value.cells] at hcs
    obtain ⟨rfl, rfl, rfl⟩ := hcs
    simp only [Prod.mk.injEq] at hx
    have each : ∀ i, i < len → ∃ q : R2, D i = rangeD q ∧ W.cell? (x.add (i * 2)) = some (.int .i64 q.1) ∧ W.cell? (x.add (i * 2 + 1)) = some (.int .i64 q.2) := by
      intro i hi
      obtain ⟨cs', h1, h2⟩ := hel i (by rw [hmm]; simp; omega)
      rw [cells36] at h1
      obtain ⟨_, hlen, hcell⟩ := World.cells?_some h1
      obtain ⟨xs, k, _, hy, _, hxl, hall⟩ := DataW.trod_array Try.underlying36 h2
      obtain ⟨v0, v1, rfl⟩ := two_of hlen
      have e0 := hcell 0 (by omega)
      have e1 := hcell 1 (by omega)
      rw [add_add] at e0 e1
      have g0 := hall 0 (by decide)
      have g1 := hall 1 (by decide)
      match xs, hxl, hy, g0, g1 with
      | [y0, y1], _, hy, g0, g1 =>
        simp only [tc3, Nat.zero_mul, Nat.one_mul, List.drop_zero, List.drop_succ_cons, List.take_succ_cons, List.take_zero, List.getElem?_cons_zero, List.getElem?_cons_succ] at g0 g1
        obtain ⟨a, ha, ya, _⟩ := DataW.trod_int Try.underlying3 g0
        obtain ⟨n', hn, yn, _⟩ := DataW.trod_int Try.underlying3 g1
        simp only [List.cons.injEq, and_true] at ha hn
        subst ha hn ya yn
        simp only [Prod.mk.injEq] at hy
        exact ⟨(a, n'), by simpa [rangeD] using hy.1, by simpa using e0, by simpa using e1⟩
    obtain ⟨q, hq⟩ := choose_lt each
    refine .inr ⟨x, q, (List.range (m - len)).map fun j => D (len + j), rfl, hl, ?_, ?_, fun i hi => (hq i hi).2⟩
    · simp [hmm]
    · rw [hx.1]
      congr 1
      apply List.map_congr_left
      intro i hi
      exact (hq i (by simpa using hi)).1
theorem rg_of {w : World} {x : Addr} {len : Nat} {q : Nat → R2} (h : ∀ i, i < len → w.cell? (x.add (i * 2)) = some (.int .i64 (q i).1) ∧ w.cell? (x.add (i * 2 + 1)) = some (.int .i64 (q i).2)) :
    Rg w (some x) ((List.range len).map q) := by
  by_cases h0 : len = 0
  · subst h0
    exact .inl rfl
  · obtain ⟨b, off, spot⟩ := x
    have hspot : spot = none := by simpa [Addr.add] using World.cell?_spot (h 0 (by omega)).1
    subst hspot
    have e : ∀ j, (⟨b, off, none⟩ : Addr).add j = ⟨b, off + j, none⟩ := by intro j; unfold Addr.add; split <;> simp_all
    refine .inr ⟨b, off, rfl, ?_, fun i hi => ?_⟩
    · have hb := World.block_lt_of_cell? w _ (h 0 (by omega)).1
      rw [e] at hb
      exact hb
    · have hi' : i < len := by simpa using hi
      have := h i hi'
      simp only [e] at this
      simpa [Nat.add_assoc] using this
theorem bulk_ranges {H : Type} (q : Nat → R2) : ∀ l : List Nat, l.length ≤ Rows.uptoBulkAll (H := H) (l.map fun i => rangeD (q i))
  | [] => Nat.zero_le _
  | x :: l => by
    have := bulk_ranges (H := H) q l
    rw [List.map_cons, Rows.uptoBulkAll, List.length_cons]
    have h1 : 1 ≤ Rows.uptoBulk (H := H) (rangeD (q x)) := by
      unfold rangeD
      rw [Rows.uptoBulk]
      omega
    omega
end Go.Proofs.Ytaidcapflcobiaa
