/- Texts of this proof, one behind the other: what each says stands ahead of it. -/
import Derived.Test.YtnohikoeaepfpaaDoorM3
import Derived.Shelf.Strings.Builder1
/- Parse of templates; conditions: the errors' values lie there, the names are in memory. -/
namespace Go.Proofs.YtnohikoeaepfpaaDoor
open Go.RowKit
open Go.Lib

def Lst (o : List Pc) : Prop := ∀ q, o[o.length - 1]? = some q → 0 ≤ q.g
theorem Lst.nil : Lst [] := fun q h => by simp at h
theorem nm_len (o : List Pc) (p : Bs) : (nm o p).length ≤ o.length + p.length := by
  unfold nm
  split
  · omega
  · rename_i h
    have : 0 < p.length := List.length_pos_iff.2 h
    simp; omega
theorem last_snoc {α : Type} (o : List α) (x : α) : (o ++ [x])[(o ++ [x]).length - 1]? = some x := by simp
theorem J_text {o : List Pc} {p t : Bs} (h : Lst o) (ht : t ≠ []) : J (nm o p) ⟨t, -1⟩ = nm o (p ++ t) := by
  have hpt : p ++ t ≠ [] := fun e => ht (List.append_eq_nil_iff.1 e).2
  unfold nm
  rw [if_neg hpt]
  by_cases hp : p = []
  · rw [if_pos hp, hp]
    unfold J
    cases ho : o[o.length - 1]? with
    | none => rfl
    | some q =>
      have := h q ho
      dsimp only
      rw [if_neg (fun e => by have := e.1; omega)]
      rfl
  · rw [if_neg hp]
    unfold J
    rw [last_snoc]
    dsimp only
    rw [if_pos ⟨rfl, rfl⟩]
    simp
theorem J_grp {l : List Pc} {g : Nat} : J l ⟨[], g⟩ = l ++ [⟨[], g⟩] := by
  unfold J
  split
  · rw [if_neg (fun e => by have := e.2; simp at this)]
  · rfl
theorem first_len {ns : List Bs} {cs t : Bs} {n : Nat} (h : firstP ns cs = .text t n) : t.length ≤ n := by
  unfold firstP at h
  split at h
  · cases h; exact Nat.le_refl _
  · cases h; rw [List.length_take]; omega
  · split at h
    · cases h; simp
    · unfold sgTk at h
      split at h
      · split at h <;> cases h
      · cases h

def parseP (ns : List Bs) (cs : Bs) : List Pc × Int × Int := if 1024 < cs.length then ([], 2, 0) else match G ns [] [] cs 0 with
  | .inl l => (l, 0, 0)
  | .inr k => ([], 27, (k : Nat))
def psV (x : List Pc ⊕ Nat) : List Pc × Int × Int := match x with
  | .inl l => (l, 0, 0)
  | .inr k => ([], 27, (k : Nat))
theorem own_fset {w : World} {base : Nat} {e : TypeId} {sz : Nat} {v : Value} {n : Nat} {xs : List Value} {q : Nat} (h : w.ownsRow base e sz v n xs) (hq : ∀ g, v.ownBlock = some g → g ≠ q) (x y : Value) : ((w.setCell ⟨q, 0, none⟩ x).setCell ⟨q, 1, none⟩ y).ownsRow base e sz v n xs := by
  refine ⟨h.1, ?_⟩
  rcases h.2 with h0 | ⟨g, cap, cur, hv, hg, hh, rest⟩
  · exact .inl h0
  · have hne : g ≠ q := hq g (by rw [hv]; rfl)
    refine .inr ⟨g, cap, cur, hv, hg, ?_, rest⟩
    rw [Below.heap_setCell _ _ _ _ hne, Below.heap_setCell _ _ _ _ hne]
    exact hh
theorem OwE.done {w w0 wr : World} {e : TypeId} {v : Value} {s : List Pc} {q : Nat} (h : OwE w0 wr e v s) (t : Touch (fun _ => False) w w0) (hq : q < w0.heap.size) (hq2 : w.heap.size ≤ q) (x y : Value) : OwE w ((wr.setCell ⟨q, 0, none⟩ x).setCell ⟨q, 1, none⟩ y) e v s :=
  ⟨own_fset h.own (fun g hg => by have := h.new g hg; omega) x y, fun g hg => by have := h.new g hg; have := t.size; omega, ftouch (t.trans h.touch (fun _ _ e => e)) hq2 x y⟩
set_option maxRecDepth 100000 in
set_option maxHeartbeats 4000000 in
theorem parse_any (s : ByteArray) (v : Value) (ns : List Bs) (w : World) (hs : s.size ≤ 140737488351232) (hN : Nl w v ns) (hn : ns.length ≤ 140737488355328) (hx : Sx w) :
    Calls Tryd.prog 7 #[.string s, v] w fun e w' => ∃ v', e = .returned (.tuple #[v', .agg #[.int .i64 (parseP ns s.data.toList).2.1, .int .i64 (parseP ns s.data.toList).2.2]]) ∧ OwE w w' 35 v' (parseP ns s.data.toList).1 := by
  have T0 := hid ((Touch.refl (fun _ => False) w).alloc (.cells #[.int .i64 0, .int .i64 0] 27))
  have FB0 := hid (two_new (w := w) (.int .i64 0) (.int .i64 0) 27)
  have N0 := hid (hN.new T0.out)
  have X0 := hid (hx.new T0.out)
  obtain ⟨a, c, rfl, _⟩ := hN
  clear hx
  unfold parseP
  rw [size_list]
  by_cases hbig : 1024 < s.size
  · rw [if_pos hbig]
    dsimp only
    have hbI : (1024 : Int) < (s.size : Int) := by omega
    clear N0 X0
    go_enter Tryd.func7, Tryd.ntmps7
    go_wp2
    refine bodyPost_ret (results_tc rfl _ _ w.heap.size 27 _ (0, 0) _ rfl (two_new _ _ 27) Tryd.underlying27 rfl (by kernel_rfl)) rfl ?_
    exact ⟨_, rfl, (OwE.nil _ _).still ((Touch.refl _ _).alloc _)⟩
  · rw [if_neg hbig]
    have hbI : ¬ (1024 : Int) < (s.size : Int) := by omega
    obtain ⟨X, hX⟩ : ∃ X, X = G ns [] [] s.data.toList 0 := ⟨_, rfl⟩
    rw [← hX]
    have HX := hid hX.symm
    change Calls Tryd.prog 7 _ w fun e w' => ∃ v', e = .returned (.tuple #[v', .agg #[.int .i64 (psV X).2.1, .int .i64 (psV X).2.2]]) ∧ OwE w w' 35 v' (psV X).1
    clear hX
    go_enter Tryd.func7, Tryd.ntmps7
    go_wp2_with fail
    generalize w.alloc (.cells #[.int .i64 0, .int .i64 0] 27) = w0 at *
    obtain ⟨q, hq⟩ : ∃ q, q = w.heap.size := ⟨_, rfl⟩
    rw [← hq] at FB0 ⊢
    have HQ := hid (show w.heap.size ≤ q ∧ q < w0.heap.size from ⟨by omega, lt_of_block FB0.out⟩)
    clear hq
    go_loopg [6, 7] s.size (fun gk v6 v7 wr => ∃ (k : Nat) (o : List Pc) (p : Bs), k + gk = s.size ∧ v7 = .int .i64 (k : Nat) ∧ OwE w0 wr 35 v6 (nm o p) ∧ Hid (G ns o p (s.data.toList.drop k) k = X) ∧ Lst o ∧ Hid (o.length + p.length ≤ k ∧ ∀ q ∈ o, q.t.length ≤ k))
    case atStart => exact ⟨0, [], [], by omega, rfl, OwE.nil _ _, hid (by rw [List.drop_zero]; exact HX.out), Lst.nil, hid ⟨Nat.le_refl _, fun q hq => by simp at hq⟩⟩
    case round =>
      obtain ⟨k, o, p, hk, rfl, hown, HG, hlst, HB⟩ := hrel
      have OW := hid hown
      have HL := hid hlst
      obtain ⟨a6, c6, hv6⟩ := own_shape hown.own
      subst hv6
      clear hown hlst
      by_cases hlt : k < s.size
      · have hltI : (k : Int) < (s.size : Int) := by omega
        have hkI : (k : Int) ≤ (s.size : Int) := by omega
        have hdl : (s.extract k s.size).data.toList = s.data.toList.drop k := ext_end s k
        have hds : (s.extract k s.size).size = s.size - k := by rw [ByteArray.size_extract]; omega
        have K := hid (first_any (s.extract k s.size) _ ns wr (by omega) (by omega) (N0.out.new OW.out.touch) hn (X0.out.new OW.out.touch))
        rw [hdl] at K
        have hne : s.data.toList.drop k ≠ [] := fun e => by
          have := congrArg List.length e
          rw [List.length_drop, size_list, List.length_nil] at this
          omega
        have hz := first_size (ns := ns) hne
        rw [G_first ns _ hne] at HG
        have hlen : (s.data.toList.drop k).length = s.size - k := by rw [List.length_drop, size_list]
        rw [hlen] at hz
        have HDD := hid (show ∀ n, (s.data.toList.drop k).drop n = s.data.toList.drop (k + n) from fun n => by rw [List.drop_drop])
        cases hf : firstP ns (s.data.toList.drop k) with
        | bad =>
          rw [hf] at K HG
          unfold tkV sv at K
          dsimp only at K HG
          clear hz hne hdl hds hlen HDD HB HL
          go_wp2_with fail
          refine K.out.mono ?_
          rintro e w1 ⟨rfl, t1⟩
          clear K
          go_upto_region 7 with fail
          have OW1 := hid ((OW.out.still t1).still ((Touch.refl _ _).alloc (.cells #[.string ⟨#[]⟩, .int .i64 0] 35)))
          clear t1 OW
          generalize w1.alloc (.cells #[.string ⟨#[]⟩, .int .i64 0] 35) = w2 at *
          generalize w1.heap.size = q8 at *
          have FB1 := hid ((OW1.out.touch.block q HQ.out.2 id).trans FB0.out)
          have g0 := cell_two0 FB1.out
          have g1 := cell_two1 FB1.out
          have gf0 := free_two (i := 0) FB1.out
          have gf1 := free_two (i := 1) FB1.out
          go_wp2
          refine bodyPost_ret (results_tc rfl _ _ q 27 _ (0, 0) _ rfl (fset FB1.out _ _) Tryd.underlying27 rfl (by kernel_rfl)) rfl ?_
          exact ⟨_, by rw [← HG.out]; rfl, by rw [← HG.out]; exact ((OwE.nil w0 35).still OW1.out.touch).done T0.out HQ.out.2 HQ.out.1 _ _⟩
        | text t n =>
          rw [hf] at K HG
          unfold tkV sv at K
          dsimp only at K HG
          have hb := hz.1 t n hf
          have hl2 := first_len hf
          have JL := hid (show J (nm o p) ⟨t, -1⟩ = _ from J_text HL.out hb.2.2.1)
          have NB := hid (show ∀ x ∈ nm o p, x.t.length ≤ k from by
            intro x hx
            unfold nm at hx
            split at hx
            · exact HB.out.2 x hx
            · rcases List.mem_append.1 hx with hx | hx
              · exact HB.out.2 x hx
              · have := HB.out.1
                simp at hx
                rw [hx]
                show p.length ≤ k
                omega)
          have hnl : (nm o p).length ≤ k := by
            have := nm_len o p
            have := HB.out.1
            omega
          clear hz hne hdl hds hlen hf
          go_wp2_with fail
          refine K.out.mono ?_
          rintro e w1 ⟨rfl, t1⟩
          clear K
          have hnz : ¬ (n : Int) = 0 := by omega
          have hnzB : ((n : Int) == 0) = false := beq_eq_false_iff_ne.2 hnz
          go_upto_region 7 with fail
          have OW2 := hid ((OW.out.still t1).still ((Touch.refl _ _).alloc (.cells #[.string ⟨t.toArray⟩, .int .i64 (-1)] 35)))
          have B8 := hid (two_new (w := w1) (.string ⟨t.toArray⟩) (.int .i64 (-1)) 35)
          clear t1 OW
          generalize w1.alloc (.cells #[.string ⟨t.toArray⟩, .int .i64 (-1)] 35) = w2 at *
          generalize w1.heap.size = q8 at *
          have KJ := hid (join_any w0 w2 _ (nm o p) ⟨t, -1⟩ OW2.out (by omega) (fun x hx => by have := NB.out x hx; omega) (by have := HB.out.1; show t.length ≤ 4096; omega))
          unfold sv gv at KJ
          have d0 := cell_two0 B8.out
          have d1 := cell_two1 B8.out
          go_wp2_with fail
          refine KJ.out.mono ?_
          rintro e w3 ⟨v3, rfl, ow3⟩
          have OW3 := hid ow3
          clear KJ ow3
          go_wp2
          go_roundg (gk - n)
          case measure => omega
          case rel =>
            exact ⟨k + n, o, p ++ t, by omega, by go_num, by rw [← JL.out]; exact OW3.out, hid (by rw [← HG.out, HDD.out]), HL.out, hid ⟨by have := HB.out.1; rw [List.length_append]; omega, fun x hx => by have := HB.out.2 x hx; omega⟩⟩
        | grp g n =>
          rw [hf] at K HG
          unfold tkV sv at K
          dsimp only at K HG
          have hb := hz.2 g n hf
          have JL := hid (show J (nm o p) ⟨[], g⟩ = _ from J_grp)
          have NB := hid (show ∀ x ∈ nm o p, x.t.length ≤ k from by
            intro x hx
            unfold nm at hx
            split at hx
            · exact HB.out.2 x hx
            · rcases List.mem_append.1 hx with hx | hx
              · exact HB.out.2 x hx
              · have := HB.out.1
                simp at hx
                rw [hx]
                show p.length ≤ k
                omega)
          have hnl : (nm o p).length ≤ k := by
            have := nm_len o p
            have := HB.out.1
            omega
          clear hz hne hdl hds hlen hf
          go_wp2_with fail
          refine K.out.mono ?_
          rintro e w1 ⟨rfl, t1⟩
          clear K
          have hnz : ¬ (n : Int) = 0 := by omega
          have hnzB : ((n : Int) == 0) = false := beq_eq_false_iff_ne.2 hnz
          go_upto_region 7 with fail
          have OW2 := hid ((OW.out.still t1).still ((Touch.refl _ _).alloc (.cells #[.string ⟨#[]⟩, .int .i64 (g : Nat)] 35)))
          have B8 := hid (two_new (w := w1) (.string ⟨#[]⟩) (.int .i64 (g : Nat)) 35)
          clear t1 OW
          generalize w1.alloc (.cells #[.string ⟨#[]⟩, .int .i64 (g : Nat)] 35) = w2 at *
          generalize w1.heap.size = q8 at *
          have KJ := hid (join_any w0 w2 _ (nm o p) ⟨[], g⟩ OW2.out (by omega) (fun x hx => by have := NB.out x hx; omega) (by show (0 : Nat) ≤ 4096; omega))
          unfold sv gv at KJ
          have d0 := cell_two0 B8.out
          have d1 := cell_two1 B8.out
          go_wp2_with fail
          refine KJ.out.mono ?_
          rintro e w3 ⟨v3, rfl, ow3⟩
          have OW3 := hid ow3
          clear KJ ow3
          go_wp2
          go_roundg (gk - n)
          case measure => omega
          case rel =>
            exact ⟨k + n, nm o p ++ [⟨[], g⟩], [], by omega, by go_num, by rw [← JL.out]; exact OW3.out, hid (by rw [← HG.out, HDD.out]), (fun x hx => by rw [last_snoc] at hx; cases hx; exact Int.natCast_nonneg g), hid ⟨by have := HB.out.1; have := nm_len o p; simp only [List.length_append, List.length_cons, List.length_nil]; omega, fun x hx => by
              rcases List.mem_append.1 hx with hx | hx
              · have := NB.out x hx; omega
              · simp at hx; rw [hx]; exact Nat.zero_le _⟩⟩
      · obtain rfl : k = s.size := by omega
        rw [drop_all, G_nil] at HG
        have FB1 := hid ((OW.out.touch.block q HQ.out.2 id).trans FB0.out)
        have g0 := cell_two0 FB1.out
        have g1 := cell_two1 FB1.out
        have gf0 := free_two (i := 0) FB1.out
        have gf1 := free_two (i := 1) FB1.out
        go_wp2
        refine bodyPost_ret (results_tc rfl _ _ q 27 _ (0, 0) _ rfl (fset FB1.out _ _) Tryd.underlying27 rfl (by kernel_rfl)) rfl ?_
        exact ⟨_, by rw [← HG.out]; rfl, by rw [← HG.out]; exact OW.out.done T0.out HQ.out.2 HQ.out.1 _ _⟩
end Go.Proofs.YtnohikoeaepfpaaDoor

/- A Builder that is the call's own: a text behind what it holds; condition: it all fits into memory. -/
namespace Go.Proofs.YtnohikoeaepfpaaDoor
open Go.RowKit
open Go.Lib

theorem info5 : (Tryd.prog.info? 5).map (fun i => (i.zero, i.size, i.bytes)) = some (some (.int .u8 0), 1, 1) := by kernel_rfl
theorem new_block (w : World) (cs : Array Value) (t : TypeId) : (w.alloc (.cells cs t)).heap[w.heap.size]? = some (.cells cs t (0, 0)) := by
  show (w.heap.push _)[_]? = _
  simp
theorem size48 : (Tryd.prog.info? 48).map (·.size) = some 2 := by kernel_rfl
theorem lies48 : liesAt Tryd.prog Tryd.prog.depth 48 (2 / Tryd.prog.cellsOf 48) 0 48 1 = true := by kernel_rfl
set_option maxHeartbeats 1000000 in
set_option maxRecDepth 100000 in
theorem held_again (b : Nat) (w : World) (h0 : w.cell? ⟨b, 0, none⟩ = some (.pointer (some ⟨b, 0, none⟩))) :
    Calls Tryd.prog 22 #[.pointer (some ⟨b, 0, none⟩)] w fun e w' => e = .returned (.tuple #[]) ∧ w' = w := by
  obtain ⟨j, hj, _⟩ := Option.map_eq_some_iff.1 size48
  go_enter Tryd.func22, Tryd.ntmps22
  go_wp2
  rw [run_neq_ptr_same w _ Tryd.underlying46 hj]
  go_wp2
  go_end0
  exact ⟨rfl, rfl⟩
set_option maxHeartbeats 1000000 in
set_option maxRecDepth 100000 in
theorem held_new (b : Nat) (w : World) (v : Value) (hb : w.heap[b]? = some (.cells #[.pointer none, v] 48 (0, 0))) :
    Calls Tryd.prog 22 #[.pointer (some ⟨b, 0, none⟩)] w fun e w' => e = .returned (.tuple #[]) ∧ w' = w.setCell ⟨b, 0, none⟩ (.pointer (some ⟨b, 0, none⟩)) := by
  obtain ⟨j, hj, hjs⟩ := Option.map_eq_some_iff.1 size48
  have h0 : w.cell? ⟨b, 0, none⟩ = some (.pointer none) := by simp [World.cell?, hb]
  have hfz : w.frozen? ⟨b, 0, none⟩ = false := by simp [World.frozen?, hb]
  have hsh : w.shape? b = some (48, 2) := by simp [World.shape?, hb]
  clear hb
  go_enter Tryd.func22, Tryd.ntmps22
  go_wp2
  rw [run_to_unsafe w ⟨b, 0, none⟩ Tryd.underlying46 Tryd.underlying68 hj (by rw [hjs]; decide) hsh (Nat.zero_lt_succ 1)]
  simp only [Result.andThen]
  rw [Oper.upon_value]
  go_wp2
  rw [run_callFunc_extern Tryd.func30 (by kernel_rfl) (by kernel_rfl) (by kernel_rfl) (e := Extern.AbiNoEscape.same) (by kernel_rfl), run_noEscape]
  simp only [Result.andThen]
  rw [Oper.upon_value]
  go_wp2
  rw [run_from_unsafe w ⟨b, 0, none⟩ Tryd.underlying68 Tryd.underlying46 hj hsh lies48]
  simp only [Result.andThen]
  rw [Oper.upon_value]
  go_wp2
  go_end0
  exact ⟨rfl, rfl⟩

/-- A Builder of the call's own that holds these bytes. -/
def Hd (B b : Nat) (l : List UInt8) (w : World) : Prop := IsBuilder 48 5 B b (byteCells l) w
theorem Hd.new (w : World) : Hd w.heap.size w.heap.size [] (w.alloc (.cells #[.pointer none, .slice none 0 0] 48)) :=
  .inl ⟨Nat.le_refl _, .slice none 0 0, new_block _ _ _, World.ownsRow_nil _ _ _ _, by simp [Value.ownBlock]⟩
theorem Hd.still {B b : Nat} {l : List UInt8} {w w' : World} (h : Hd B b l w) (t : Touch (fun _ => False) w w') : Hd B b l w' := by
  have go : ∀ p, BuilderAt 48 5 B b p (byteCells l) w → BuilderAt 48 5 B b p (byteCells l) w' := by
    rintro p ⟨h1, v, h2, h3, h4⟩
    refine ⟨h1, v, (t.block b (lt_of_block h2) id).trans h2, ⟨h3.1, ?_⟩, h4⟩
    rcases h3.2 with h0 | ⟨g, cap, cur, hv, hg, hh, rest⟩
    · exact .inl h0
    · exact .inr ⟨g, cap, cur, hv, hg, (t.block g (lt_of_block hh) id).trans hh, rest⟩
  rcases h with h | h
  · exact .inl (go _ h)
  · exact .inr (go _ h)
/-- Parts lie as they lay. -/
def Keep35 (w w' : World) : Prop := ∀ (k : Nat) (cs : Array Value), w.heap[k]? = some (Obj.cells cs 35 (0, 0)) → w'.heap[k]? = some (Obj.cells cs 35 (0, 0))
theorem Keep35.trans {a b c : World} (h : Keep35 a b) (k : Keep35 b c) : Keep35 a c := fun i cs e => k i cs (h i cs e)
theorem Keep35.of {a b : World} (h : Touch (fun _ => False) a b) : Keep35 a b := fun i _ e => (h.block i (lt_of_block e) id).trans e
theorem strCells_bytes (s : ByteArray) : strCells s = byteCells s.data.toList := rfl

set_option maxHeartbeats 2000000 in
set_option maxRecDepth 100000 in
theorem check_held (B b : Nat) (l : List UInt8) (w : World) (h : Hd B b l w) :
    Calls Tryd.prog 22 #[.pointer (some ⟨b, 0, none⟩)] w fun e w' => e = .returned (.tuple #[]) ∧ BuilderAt 48 5 B b (.pointer (some ⟨b, 0, none⟩)) (byteCells l) w' ∧ Below B w w' ∧ Keep35 w w' := by
  rcases h with ⟨h1, v, h2, h3, h4⟩ | h
  · refine (held_new b w v h2).mono ?_
    rintro e w' ⟨rfl, rfl⟩
    refine ⟨rfl, ⟨h1, v, two_set0 h2, ?_, h4⟩, (Below.refl B w).setCell (p := ⟨b, 0, none⟩) h1 _, fun k cs hk => by
      rw [Below.heap_setCell _ _ _ _ (fun e => by subst e; rw [h2] at hk; simp at hk)]
      exact hk⟩
    refine ⟨h3.1, ?_⟩
    rcases h3.2 with h0 | ⟨g, cap, cur, hv, hg, hh, rest⟩
    · exact .inl h0
    · refine .inr ⟨g, cap, cur, hv, hg, ?_, rest⟩
      rw [Below.heap_setCell _ _ _ _ (fun e => h4 (by rw [hv]; simp [Value.ownBlock]; exact e))]
      exact hh
  · refine (held_again b w h.cell0).mono ?_
    rintro e w' ⟨rfl, rfl⟩
    exact ⟨rfl, h, Below.refl _ _, fun _ _ e => e⟩
set_option maxHeartbeats 2000000 in
set_option maxRecDepth 100000 in
theorem writeString_any (B b : Nat) (l : List UInt8) (s : ByteArray) (w : World) (h : Hd B b l w) (hlen : l.length + s.size ≤ 140737488355328) (hBw : B ≤ w.heap.size) :
    Calls Tryd.prog 14 #[.pointer (some ⟨b, 0, none⟩), .string s] w fun e w' => e = .returned (.tuple #[.int .i64 s.size, .nilIface]) ∧ Hd B b (l ++ s.data.toList) w' ∧ Below B w w' ∧ Keep35 w w' := by
  obtain ⟨i0, hi, hz0, hz1, hz2⟩ := info_parts info5
  have K := hid (check_held B b l w h)
  go_enter Tryd.func14, Tryd.ntmps14
  go_wp2_with fail
  refine K.out.mono ?_
  rintro e w1 ⟨rfl, ⟨hB, v, hbk, hown, hne⟩, hb1, hk1⟩
  have c0 : w1.cell? ⟨b, 0, none⟩ = some (.pointer (some ⟨b, 0, none⟩)) := cell_two0 hbk
  have c1 : w1.cell? ⟨b, 1, none⟩ = some v := cell_two1 hbk
  clear K
  have hcl := byteCells_length l
  go_wp2_with (at_builtin; refine wpList_append_own_string _ rfl _ _ 23 9 rfl B 5 i0 Tryd.underlying23 Tryd.underlying9 hi hz0 hz1 hz2 _ _ _ rfl hown s rfl ?c3 ?c4 ?c5 ?_)
  case c3 => unfold maxLen; omega
  case c4 => omega
  case c5 => have := hb1.size; omega
  intro v' w2 hown' hgrow _
  have hb2 : w2.heap[b]? = some (.cells #[.pointer (some ⟨b, 0, none⟩), v] 48 (0, 0)) := by
    rw [hgrow.block b (lt_of_block hbk) (fun e => hne e.symm)]
    exact hbk
  have d0 : w2.cell? ⟨b, 0, none⟩ = some (.pointer (some ⟨b, 0, none⟩)) := cell_two0 hb2
  have d1 : w2.cell? ⟨b, 1, none⟩ = some v := cell_two1 hb2
  have f1 : w2.frozen? ⟨b, 1, none⟩ = false := free_two hb2
  obtain ⟨ao, cap, rfl⟩ : ∃ ao cap, v' = .slice ao (l.length + s.size) cap := by
    rcases hown'.2 with ⟨hv, h0⟩ | ⟨g, cap, cur, hv, _⟩
    · exact ⟨none, 0, by rw [hv, h0]⟩
    · exact ⟨_, cap, hv⟩
  go_wp2
  refine bodyPost_ret (results_tmp2 rfl _ _ _) rfl ?_
  refine ⟨rfl, .inr ?_, ?_, ?_⟩
  · refine BuilderAt.put (T := 48) (e := 5) hB hb2 ?_ (by decide)
    rw [byteCells_append, ← strCells_bytes s, List.length_append, strCells_length, byteCells_length]
    exact hown'
  · exact (hb1.grown hgrow (by have := hb1.size; omega) (fun k hk => (hown.lt k hk).1)).setCell (p := ⟨b, 1, none⟩) hB _
  · refine hk1.trans (fun k cs hk => ?_)
    rw [Below.heap_setCell _ _ _ _ (fun e => by subst e; rw [hbk] at hk; simp at hk), hgrow.block k (lt_of_block hk) (fun e => ?_)]
    · exact hk
    · rcases hown.2 with ⟨h0, _⟩ | ⟨g, cp, cur, hv, hg, hh, _⟩
      · rw [h0] at e
        simp [Value.ownBlock] at e
      · rw [hv] at e
        simp [Value.ownBlock] at e
        subst e
        rw [hh] at hk
        simp at hk
end Go.Proofs.YtnohikoeaepfpaaDoor
