/- Texts of this proof, one behind the other: what each says stands ahead of it. -/
import Derived.Test.YtnohikoeaepfpaaDoorM2
import Derived.Shelf.Strings.Builder1
import Derived.Test.YtnohikoeaepfpaaDoorM0
import Derived.Laws.OwnMore
/- Templates: first; conditions: the text is of at most 1024 bytes and not empty, the errors' values lie there. -/
namespace Go.Proofs.YtnohikoeaepfpaaDoor
open Go.RowKit
open Go.Lib

theorem results_ct {P : Program} {fn : Func} {t p : Tmp} {ty : TypeId} (h : fn.results = #[.cell p ty, .tmp t]) (tmps : Array Value) (w : World) (g : Nat) (et : TypeId) (cs : Array Value) (fr : Nat × Nat) (d : TypeDesc)
    (hp : tmps.getD p undef = .pointer (some ⟨g, 0, none⟩)) (hg : w.heap[g]? = some (.cells cs et fr))
    (hu : P.underlying ty = some d) (hd : (match d with | .struct _ | .array _ _ => true | _ => false) = true) (hi : (P.info? ty).map (·.size) = some cs.size) :
    (results fn tmps).run P w = .ok (.tuple #[.agg cs, tmps.getD t undef]) w := by
  have hp' : tmps[p]?.getD undef = .pointer (some ⟨g, 0, none⟩) := by simpa using hp
  simp [results, h, hp', asAddr, run_loadVar_row w g et ty cs fr d hg hu hd hi]
theorem results_tc {P : Program} {fn : Func} {t p : Tmp} {ty : TypeId} (h : fn.results = #[.tmp t, .cell p ty]) (tmps : Array Value) (w : World) (g : Nat) (et : TypeId) (cs : Array Value) (fr : Nat × Nat) (d : TypeDesc)
    (hp : tmps.getD p undef = .pointer (some ⟨g, 0, none⟩)) (hg : w.heap[g]? = some (.cells cs et fr))
    (hu : P.underlying ty = some d) (hd : (match d with | .struct _ | .array _ _ => true | _ => false) = true) (hi : (P.info? ty).map (·.size) = some cs.size) :
    (results fn tmps).run P w = .ok (.tuple #[tmps.getD t undef, .agg cs]) w := by
  have hp' : tmps[p]?.getD undef = .pointer (some ⟨g, 0, none⟩) := by simpa using hp
  simp [results, h, hp', asAddr, run_loadVar_row w g et ty cs fr d hg hu hd hi]
theorem two_new {w : World} (u v : Value) (t : TypeId) : (w.alloc (.cells #[u, v] t)).heap[w.heap.size]? = some (.cells #[u, v] t (0, 0)) := by
  show (w.heap.push _)[_]? = _
  simp
theorem fset {w' : World} {q : Nat} {u v : Value} {ty : TypeId} (h : w'.heap[q]? = some (.cells #[u, v] ty (0, 0))) (x y : Value) : ((w'.setCell ⟨q, 0, none⟩ x).setCell ⟨q, 1, none⟩ y).heap[q]? = some (.cells #[x, y] ty (0, 0)) := two_set1 (two_set0 h)
theorem ftouch {S : Nat → Prop} {w w' : World} {q : Nat} (T : Touch S w w') (hq : w.heap.size ≤ q) (x y : Value) : Touch S w ((w'.setCell ⟨q, 0, none⟩ x).setCell ⟨q, 1, none⟩ y) :=
  (T.setCell (p := ⟨q, 0, none⟩) (fun h => absurd h (Nat.not_lt.2 hq)) x).setCell (p := ⟨q, 1, none⟩) (fun h => absurd h (Nat.not_lt.2 hq)) y
def tkOf (k : Nat) : Option (Nat × Nat) → Tk
  | some (g, n) => if g < k then .grp g n else .bad
  | none => .bad
theorem sgTk_is (ns : List Bs) (r : Bs) : sgTk ns r = tkOf ns.length (signP ns r) := by
  unfold sgTk
  cases signP ns r <;> rfl
def tkV : Tk → Value
  | .text t n => .tuple #[.agg #[sv t, .int .i64 (-1)], .int .i64 (n : Nat)]
  | .grp g n => .tuple #[.agg #[sv [], .int .i64 (g : Nat)], .int .i64 (n : Nat)]
  | .bad => .tuple #[.agg #[sv [], .int .i64 0], .int .i64 0]
set_option maxRecDepth 100000 in
set_option maxHeartbeats 4000000 in
theorem first_any (s : ByteArray) (v : Value) (ns : List Bs) (w : World) (hs : s.size ≤ 4096) (h1 : 0 < s.size) (hN : Nl w v ns) (hn : ns.length ≤ 140737488355328) (hx : Sx w) :
    Calls Tryd.prog 12 #[.string s, v] w fun e w' => e = .returned (tkV (firstP ns s.data.toList)) ∧ Touch (fun _ => False) w w' := by
  have T0 := hid ((Touch.refl (fun _ => False) w).alloc (.cells #[.string ⟨#[]⟩, .int .i64 0] 35))
  have FB0 := hid (two_new (w := w) (.string ⟨#[]⟩) (.int .i64 0) 35)
  have N0 := hid (hN.new T0.out)
  have X0 := hid (hx.new T0.out)
  obtain ⟨a, c, rfl, _⟩ := hN
  clear hx
  have KI := hid (index_any s)
  cases hi : idxOf 36 s.data.toList with
  | none =>
    have e : firstP ns s.data.toList = .text s.data.toList s.data.toList.length := by unfold firstP; rw [hi]
    rw [e, size_list]
    rw [hi] at KI
    unfold tkV idxV at *
    dsimp only at KI ⊢
    clear e hi
    go_enter Tryd.func12, Tryd.ntmps12
    go_wp2_with fail
    generalize w.alloc (.cells #[.string ⟨#[]⟩, .int .i64 0] 35) = w0 at *
    obtain ⟨q, hq⟩ : ∃ q, q = w.heap.size := ⟨_, rfl⟩
    rw [← hq] at FB0 ⊢
    have HQ := hid (show w.heap.size ≤ q from by omega)
    clear hq
    refine (KI.out w0).mono ?_
    rintro e w1 ⟨rfl, rfl⟩
    have g0 := cell_two0 FB0.out
    have g1 := cell_two1 FB0.out
    have gf0 := free_two (i := 0) FB0.out
    have gf1 := free_two (i := 1) FB0.out
    go_wp2
    refine bodyPost_ret (results_ct rfl _ _ q 35 _ (0, 0) _ rfl (fset FB0.out _ _) Tryd.underlying35 rfl (by kernel_rfl)) rfl ?_
    exact ⟨rfl, ftouch T0.out HQ.out _ _⟩
  | some i =>
    have hlt := idx_lt hi
    rw [size_list] at hlt
    cases i with
    | succ i =>
      have e : firstP ns s.data.toList = .text (s.data.toList.take (i + 1)) (i + 1) := by unfold firstP; rw [hi]
      rw [e, ← ext_take]
      rw [hi] at KI
      unfold tkV idxV at *
      dsimp only at KI ⊢
      rw [sv_data]
      clear e hi
      have hiI : (0 : Int) < ((i + 1 : Nat) : Int) := by omega
      have hiN : ¬ ((i + 1 : Nat) : Int) < 0 := by omega
      have hiL : ((i + 1 : Nat) : Int) ≤ (s.size : Int) := by omega
      generalize i + 1 = k at *
      go_enter Tryd.func12, Tryd.ntmps12
      go_wp2_with fail
      generalize w.alloc (.cells #[.string ⟨#[]⟩, .int .i64 0] 35) = w0 at *
      obtain ⟨q, hq⟩ : ∃ q, q = w.heap.size := ⟨_, rfl⟩
      rw [← hq] at FB0 ⊢
      have HQ := hid (show w.heap.size ≤ q from by omega)
      clear hq
      refine (KI.out w0).mono ?_
      rintro e w1 ⟨rfl, rfl⟩
      have g0 := cell_two0 FB0.out
      have g1 := cell_two1 FB0.out
      have gf0 := free_two (i := 0) FB0.out
      have gf1 := free_two (i := 1) FB0.out
      go_wp2
      refine bodyPost_ret (results_ct rfl _ _ q 35 _ (0, 0) _ rfl (fset FB0.out _ _) Tryd.underlying35 rfl (by kernel_rfl)) rfl ?_
      exact ⟨rfl, ftouch T0.out HQ.out _ _⟩
    | zero =>
      obtain ⟨r, hr⟩ := idx_zero hi
      have e : firstP ns s.data.toList = if r[0]? = some 36 then .text [36] 2 else sgTk ns r := by unfold firstP; rw [hi, hr]; rfl
      rw [e]
      rw [hi] at KI
      unfold idxV at KI
      dsimp only at KI
      clear e hi
      have KP := hid (hasPrefix_any s ⟨#[36, 36]⟩)
      change Hid (∀ w, Calls Tryd.prog 20 #[.string s, .string ⟨#[36, 36]⟩] w fun e w' => e = .returned (.bool (([36, 36] : Bs).isPrefixOf s.data.toList)) ∧ w' = w) at KP
      by_cases h36 : r[0]? = some 36
      · have ep : ([36, 36] : Bs).isPrefixOf s.data.toList = true := by
          rw [hr]
          cases r with
          | nil => cases h36
          | cons x q => simp at h36; rw [h36]; rfl
        rw [if_pos h36]
        rw [ep] at KP
        unfold tkV
        dsimp only
        clear h36 ep hr
        go_enter Tryd.func12, Tryd.ntmps12
        go_wp2_with fail
        generalize w.alloc (.cells #[.string ⟨#[]⟩, .int .i64 0] 35) = w0 at *
        obtain ⟨q, hq⟩ : ∃ q, q = w.heap.size := ⟨_, rfl⟩
        rw [← hq] at FB0 ⊢
        have HQ := hid (show w.heap.size ≤ q from by omega)
        clear hq
        refine (KI.out w0).mono ?_
        rintro e w1 ⟨rfl, rfl⟩
        clear KI
        go_wp2_with fail
        refine (KP.out w1).mono ?_
        rintro e w1 ⟨rfl, rfl⟩
        clear KP
        have g0 := cell_two0 FB0.out
        have g1 := cell_two1 FB0.out
        have gf0 := free_two (i := 0) FB0.out
        have gf1 := free_two (i := 1) FB0.out
        go_wp2
        refine bodyPost_ret (results_ct rfl _ _ q 35 _ (0, 0) _ rfl (fset FB0.out _ _) Tryd.underlying35 rfl (by kernel_rfl)) rfl ?_
        exact ⟨rfl, ftouch T0.out HQ.out _ _⟩
      · have ep : ([36, 36] : Bs).isPrefixOf s.data.toList = false := by
          rw [hr]
          cases r with
          | nil => rfl
          | cons x q =>
            have : x ≠ 36 := fun e => h36 (by rw [e]; rfl)
            simp [List.isPrefixOf, this.symm]
        rw [if_neg h36]
        rw [ep] at KP
        have KS := hid (sign_any s r _ ns _ hs hr N0.out hn X0.out)
        obtain ⟨S, hS⟩ : ∃ S, S = signP ns r := ⟨_, rfl⟩
        have HS := hid (show sgTk ns r = tkOf ns.length S from by rw [hS, sgTk_is])
        rw [← hS] at KS
        rw [HS.out]
        obtain ⟨V, hV⟩ : ∃ V, V = tkV (tkOf ns.length S) := ⟨_, rfl⟩
        have HV := hid hV
        rw [← hV]
        clear hV
        have HSN := hid (show ∀ g n, S = some (g, n) → n ≤ 4096 from by
          intro g n hgn
          have := sign_size (hS ▸ hgn)
          have e2 : s.size = r.length + 1 := by rw [← size_list, hr]; rfl
          omega)
        clear h36 ep hr HS hS N0 X0
        go_enter Tryd.func12, Tryd.ntmps12
        go_wp2_with fail
        generalize w.alloc (.cells #[.string ⟨#[]⟩, .int .i64 0] 35) = w0 at *
        obtain ⟨q, hq⟩ : ∃ q, q = w.heap.size := ⟨_, rfl⟩
        rw [← hq] at FB0 ⊢
        have HQ := hid (show w.heap.size ≤ q from by omega)
        clear hq
        refine (KI.out w0).mono ?_
        rintro e w1 ⟨rfl, rfl⟩
        clear KI
        go_wp2_with fail
        refine (KP.out w1).mono ?_
        rintro e w1 ⟨rfl, rfl⟩
        clear KP
        go_wp2_with fail
        refine KS.out.mono ?_
        rintro e w2 ⟨g, n, rfl, hsg, t2⟩
        clear KS
        have T2 := hid (T0.out.trans t2 (fun _ _ e => e))
        have FB2 := hid ((t2.block q (lt_of_block FB0.out) id).trans FB0.out)
        clear t2 T0 FB0
        have g0 := cell_two0 FB2.out
        have g1 := cell_two1 FB2.out
        have gf0 := free_two (i := 0) FB2.out
        have gf1 := free_two (i := 1) FB2.out
        cases S with
        | none =>
          have hg : g = -1 := hsg
          subst hg
          clear hsg
          go_wp2
          refine bodyPost_ret (results_ct rfl _ _ q 35 _ (0, 0) _ rfl (fset FB2.out _ _) Tryd.underlying35 rfl (by kernel_rfl)) rfl ?_
          exact ⟨by rw [HV.out]; rfl, ftouch T2.out HQ.out _ _⟩
        | some x =>
          obtain ⟨g', n'⟩ := x
          obtain ⟨rfl, rfl⟩ := hsg
          unfold tkOf at HV
          dsimp only at HV
          have hg0 : ¬ (g' : Int) < 0 := by omega
          by_cases hgl : g' < ns.length
          · rw [if_pos hgl] at HV
            have hgI : ¬ (ns.length : Int) ≤ (g' : Int) := by omega
            go_wp2
            refine bodyPost_ret (results_ct rfl _ _ q 35 _ (0, 0) _ rfl (fset FB2.out _ _) Tryd.underlying35 rfl (by kernel_rfl)) rfl ?_
            exact ⟨by rw [HV.out]; rfl, ftouch T2.out HQ.out _ _⟩
          · rw [if_neg hgl] at HV
            have hgI : (ns.length : Int) ≤ (g' : Int) := by omega
            go_wp2
            refine bodyPost_ret (results_ct rfl _ _ q 35 _ (0, 0) _ rfl (fset FB2.out _ _) Tryd.underlying35 rfl (by kernel_rfl)) rfl ?_
            exact ⟨by rw [HV.out]; rfl, ftouch T2.out HQ.out _ _⟩
end Go.Proofs.YtnohikoeaepfpaaDoor

/- A Builder that is the call's own: a text behind what it holds; condition: it all fits into memory. -/
namespace Go.Proofs.YtnohikoeaepfpaaDoor
open Go.RowKit
open Go.Lib

theorem info5 : (Tryd.prog.info? 5).map (fun i => (i.zero, i.size, i.bytes)) = some (some (.int .u8 0), 1, 1) := by kernel_rfl
theorem new_block (w : World) (cs : Array Value) (t : TypeId) : (w.alloc (.cells cs t)).heap[w.heap.size]? = some (.cells cs t (0, 0)) := by
  show (w.heap.push _)[_]? = _
  simp
theorem size48 : (Tryd.prog.info? 48).map (·.size) = some 2 := by kernel_rfl
theorem lies48 : liesAt Tryd.prog Tryd.prog.depth 48 (2 / Tryd.prog.cellsOf 48) 0 48 1 = true := by kernel_rfl
set_option maxHeartbeats 1000000 in
set_option maxRecDepth 100000 in
theorem held_again (b : Nat) (w : World) (h0 : w.cell? ⟨b, 0, none⟩ = some (.pointer (some ⟨b, 0, none⟩))) :
    Calls Tryd.prog 22 #[.pointer (some ⟨b, 0, none⟩)] w fun e w' => e = .returned (.tuple #[]) ∧ w' = w := by
  obtain ⟨j, hj, _⟩ := Option.map_eq_some_iff.1 size48
  go_enter Tryd.func22, Tryd.ntmps22
  go_wp2
  rw [run_neq_ptr_same w _ Tryd.underlying46 hj]
  go_wp2
  go_end0
  exact ⟨rfl, rfl⟩
set_option maxHeartbeats 1000000 in
set_option maxRecDepth 100000 in
theorem held_new (b : Nat) (w : World) (v : Value) (hb : w.heap[b]? = some (.cells #[.pointer none, v] 48 (0, 0))) :
    Calls Tryd.prog 22 #[.pointer (some ⟨b, 0, none⟩)] w fun e w' => e = .returned (.tuple #[]) ∧ w' = w.setCell ⟨b, 0, none⟩ (.pointer (some ⟨b, 0, none⟩)) := by
  obtain ⟨j, hj, hjs⟩ := Option.map_eq_some_iff.1 size48
  have h0 : w.cell? ⟨b, 0, none⟩ = some (.pointer none) := by simp [World.cell?, hb]
  have hfz : w.frozen? ⟨b, 0, none⟩ = false := by simp [World.frozen?, hb]
  have hsh : w.shape? b = some (48, 2) := by simp [World.shape?, hb]
  clear hb
  go_enter Tryd.func22, Tryd.ntmps22
  go_wp2
  rw [run_to_unsafe w ⟨b, 0, none⟩ Tryd.underlying46 Tryd.underlying68 hj (by rw [hjs]; decide) hsh (Nat.zero_lt_succ 1)]
  simp only [Result.andThen]
  rw [Oper.upon_value]
  go_wp2
  rw [run_callFunc_extern Tryd.func30 (by kernel_rfl) (by kernel_rfl) (by kernel_rfl) (e := Extern.AbiNoEscape.same) (by kernel_rfl), run_noEscape]
  simp only [Result.andThen]
  rw [Oper.upon_value]
  go_wp2
  rw [run_from_unsafe w ⟨b, 0, none⟩ Tryd.underlying68 Tryd.underlying46 hj hsh lies48]
  simp only [Result.andThen]
  rw [Oper.upon_value]
  go_wp2
  go_end0
  exact ⟨rfl, rfl⟩

/-- A Builder of the call's own that holds these bytes. -/
def Hd (B b : Nat) (l : List UInt8) (w : World) : Prop := IsBuilder 48 5 B b (byteCells l) w
theorem Hd.new (w : World) : Hd w.heap.size w.heap.size [] (w.alloc (.cells #[.pointer none, .slice none 0 0] 48)) :=
  .inl ⟨Nat.le_refl _, .slice none 0 0, new_block _ _ _, World.ownsRow_nil _ _ _ _, by simp [Value.ownBlock]⟩
theorem Hd.still {B b : Nat} {l : List UInt8} {w w' : World} (h : Hd B b l w) (t : Touch (fun _ => False) w w') : Hd B b l w' := by
  have go : ∀ p, BuilderAt 48 5 B b p (byteCells l) w → BuilderAt 48 5 B b p (byteCells l) w' := by
    rintro p ⟨h1, v, h2, h3, h4⟩
    refine ⟨h1, v, (t.block b (lt_of_block h2) id).trans h2, ⟨h3.1, ?_⟩, h4⟩
    rcases h3.2 with h0 | ⟨g, cap, cur, hv, hg, hh, rest⟩
    · exact .inl h0
    · exact .inr ⟨g, cap, cur, hv, hg, (t.block g (lt_of_block hh) id).trans hh, rest⟩
  rcases h with h | h
  · exact .inl (go _ h)
  · exact .inr (go _ h)
/-- Parts lie as they lay. -/
def Keep35 (w w' : World) : Prop := ∀ (k : Nat) (cs : Array Value), w.heap[k]? = some (Obj.cells cs 35 (0, 0)) → w'.heap[k]? = some (Obj.cells cs 35 (0, 0))
theorem Keep35.trans {a b c : World} (h : Keep35 a b) (k : Keep35 b c) : Keep35 a c := fun i cs e => k i cs (h i cs e)
theorem Keep35.of {a b : World} (h : Touch (fun _ => False) a b) : Keep35 a b := fun i _ e => (h.block i (lt_of_block e) id).trans e
theorem strCells_bytes (s : ByteArray) : strCells s = byteCells s.data.toList := rfl

set_option maxHeartbeats 2000000 in
set_option maxRecDepth 100000 in
theorem check_held (B b : Nat) (l : List UInt8) (w : World) (h : Hd B b l w) :
    Calls Tryd.prog 22 #[.pointer (some ⟨b, 0, none⟩)] w fun e w' => e = .returned (.tuple #[]) ∧ BuilderAt 48 5 B b (.pointer (some ⟨b, 0, none⟩)) (byteCells l) w' ∧ Below B w w' ∧ Keep35 w w' := by
  rcases h with ⟨h1, v, h2, h3, h4⟩ | h
  · refine (held_new b w v h2).mono ?_
    rintro e w' ⟨rfl, rfl⟩
    refine ⟨rfl, ⟨h1, v, two_set0 h2, ?_, h4⟩, (Below.refl B w).setCell (p := ⟨b, 0, none⟩) h1 _, fun k cs hk => by
      rw [Below.heap_setCell _ _ _ _ (fun e => by subst e; rw [h2] at hk; simp at hk)]
      exact hk⟩
    refine ⟨h3.1, ?_⟩
    rcases h3.2 with h0 | ⟨g, cap, cur, hv, hg, hh, rest⟩
    · exact .inl h0
    · refine .inr ⟨g, cap, cur, hv, hg, ?_, rest⟩
      rw [Below.heap_setCell _ _ _ _ (fun e => h4 (by rw [hv]; simp [Value.ownBlock]; exact e))]
      exact hh
  · refine (held_again b w h.cell0).mono ?_
    rintro e w' ⟨rfl, rfl⟩
    exact ⟨rfl, h, Below.refl _ _, fun _ _ e => e⟩
set_option maxHeartbeats 2000000 in
set_option maxRecDepth 100000 in
theorem writeString_any (B b : Nat) (l : List UInt8) (s : ByteArray) (w : World) (h : Hd B b l w) (hlen : l.length + s.size ≤ 140737488355328) (hBw : B ≤ w.heap.size) :
    Calls Tryd.prog 14 #[.pointer (some ⟨b, 0, none⟩), .string s] w fun e w' => e = .returned (.tuple #[.int .i64 s.size, .nilIface]) ∧ Hd B b (l ++ s.data.toList) w' ∧ Below B w w' ∧ Keep35 w w' := by
  obtain ⟨i0, hi, hz0, hz1, hz2⟩ := info_parts info5
  have K := hid (check_held B b l w h)
  go_enter Tryd.func14, Tryd.ntmps14
  go_wp2_with fail
  refine K.out.mono ?_
  rintro e w1 ⟨rfl, ⟨hB, v, hbk, hown, hne⟩, hb1, hk1⟩
  have c0 : w1.cell? ⟨b, 0, none⟩ = some (.pointer (some ⟨b, 0, none⟩)) := cell_two0 hbk
  have c1 : w1.cell? ⟨b, 1, none⟩ = some v := cell_two1 hbk
  clear K
  have hcl := byteCells_length l
  go_wp2_with (at_builtin; refine wpList_append_own_string _ rfl _ _ 23 9 rfl B 5 i0 Tryd.underlying23 Tryd.underlying9 hi hz0 hz1 hz2 _ _ _ rfl hown s rfl ?c3 ?c4 ?c5 ?_)
  case c3 => unfold maxLen; omega
  case c4 => omega
  case c5 => have := hb1.size; omega
  intro v' w2 hown' hgrow _
  have hb2 : w2.heap[b]? = some (.cells #[.pointer (some ⟨b, 0, none⟩), v] 48 (0, 0)) := by
    rw [hgrow.block b (lt_of_block hbk) (fun e => hne e.symm)]
    exact hbk
  have d0 : w2.cell? ⟨b, 0, none⟩ = some (.pointer (some ⟨b, 0, none⟩)) := cell_two0 hb2
  have d1 : w2.cell? ⟨b, 1, none⟩ = some v := cell_two1 hb2
  have f1 : w2.frozen? ⟨b, 1, none⟩ = false := free_two hb2
  obtain ⟨ao, cap, rfl⟩ : ∃ ao cap, v' = .slice ao (l.length + s.size) cap := by
    rcases hown'.2 with ⟨hv, h0⟩ | ⟨g, cap, cur, hv, _⟩
    · exact ⟨none, 0, by rw [hv, h0]⟩
    · exact ⟨_, cap, hv⟩
  go_wp2
  refine bodyPost_ret (results_tmp2 rfl _ _ _) rfl ?_
  refine ⟨rfl, .inr ?_, ?_, ?_⟩
  · refine BuilderAt.put (T := 48) (e := 5) hB hb2 ?_ (by decide)
    rw [byteCells_append, ← strCells_bytes s, List.length_append, strCells_length, byteCells_length]
    exact hown'
  · exact (hb1.grown hgrow (by have := hb1.size; omega) (fun k hk => (hown.lt k hk).1)).setCell (p := ⟨b, 1, none⟩) hB _
  · refine hk1.trans (fun k cs hk => ?_)
    rw [Below.heap_setCell _ _ _ _ (fun e => by subst e; rw [hbk] at hk; simp at hk), hgrow.block k (lt_of_block hk) (fun e => ?_)]
    · exact hk
    · rcases hown.2 with ⟨h0, _⟩ | ⟨g, cp, cur, hv, hg, hh, _⟩
      · rw [h0] at e
        simp [Value.ownBlock] at e
      · rw [hv] at e
        simp [Value.ownBlock] at e
        subst e
        rw [hh] at hk
        simp at hk
end Go.Proofs.YtnohikoeaepfpaaDoor

/- Lists of pieces in memory; no condition. -/
namespace Go.Proofs.YtnohikoeaepfpaaDoor
open Go.RowKit

theorem info35 : (Tryd.prog.info? 35).map (fun i => (i.zero, i.size, i.bytes)) = some (some (.agg #[.string ⟨#[]⟩, .int .i64 0]), 2, 24) := by kernel_rfl
theorem info57 : (Tryd.prog.info? 57).map (fun i => (i.zero, i.size, i.bytes)) = some (some (.agg #[.string ⟨#[]⟩, .int .i64 0]), 2, 24) := by kernel_rfl
def gv (g : Int) : Value := .int .i64 g
def encR (x : Pc) : List Value := [sv x.t, gv x.g]
def flatR (l : List Pc) : List Value := l.flatMap encR
theorem flatR_append (l m : List Pc) : flatR (l ++ m) = flatR l ++ flatR m := by simp [flatR]
theorem length_flatR (l : List Pc) : (flatR l).length = l.length * 2 := by
  induction l with
  | nil => rfl
  | cons x r ih => simp only [flatR, List.flatMap_cons, List.length_append, List.length_cons] at ih ⊢; rw [ih]; simp [encR]; omega
theorem flatR_get0 : ∀ (l : List Pc) (i : Nat) (h : i < l.length), (flatR l)[2 * i]? = some (sv (l[i]).t)
  | x :: r, 0, _ => rfl
  | x :: r, i + 1, h => by
    have := flatR_get0 r i (by simpa using h)
    show (encR x ++ flatR r)[2 * (i + 1)]? = _
    rw [List.getElem?_append_right (by simp [encR]; omega)]
    simpa [encR, show 2 * (i + 1) - 2 = 2 * i by omega] using this
theorem flatR_get1 : ∀ (l : List Pc) (i : Nat) (h : i < l.length), (flatR l)[2 * i + 1]? = some (gv (l[i]).g)
  | x :: r, 0, _ => rfl
  | x :: r, i + 1, h => by
    have := flatR_get1 r i (by simpa using h)
    show (encR x ++ flatR r)[2 * (i + 1) + 1]? = _
    rw [List.getElem?_append_right (by simp [encR]; omega)]
    simpa [encR, show 2 * (i + 1) + 1 - 2 = 2 * i + 1 by omega] using this
theorem flatR_one (l : List Pc) : ∀ u ∈ flatR l, u.oneCell' = true := by
  intro u hu
  simp only [flatR, List.mem_flatMap, encR] at hu
  obtain ⟨x, _, hx⟩ := hu
  simp at hx
  rcases hx with rfl | rfl <;> rfl

theorem add_g (g j : Nat) : (⟨g, 0, none⟩ : Addr).add j = ⟨g, j, none⟩ := by
  unfold Addr.add
  split
  · rename_i h; rw [h]
  · rw [Nat.zero_add]

/-- A list of ranges in memory, as a walk is told of it. -/
def Rg (w : World) (a : Option Addr) (l : List Pc) : Prop :=
  l = [] ∨ ∃ b o, a = some ⟨b, o, none⟩ ∧ b < w.heap.size ∧ ∀ i (h : i < l.length), w.cell? ⟨b, o + i * 2, none⟩ = some (sv (l[i]).t) ∧ w.cell? ⟨b, o + i * 2 + 1, none⟩ = some (gv (l[i]).g)

theorem Rg.kept {w w' : World} {S : Nat → Prop} {a : Option Addr} {l : List Pc} (h : Rg w a l) (t : Touch S w w') (hs : ∀ b o, a = some ⟨b, o, none⟩ → b < w.heap.size → ¬ S b) : Rg w' a l := by
  rcases h with h | ⟨b, o, rfl, hb, hc⟩
  · exact .inl h
  · refine .inr ⟨b, o, rfl, Nat.lt_of_lt_of_le hb t.size, fun i hi => ?_⟩
    rw [t.cell (p := ⟨b, o + i * 2, none⟩) hb (hs b o rfl hb), t.cell (p := ⟨b, o + i * 2 + 1, none⟩) hb (hs b o rfl hb)]
    exact hc i hi
theorem Rg.new {w w' : World} {a : Option Addr} {l : List Pc} (h : Rg w a l) (t : Touch (fun _ => False) w w') : Rg w' a l := h.kept t (fun _ _ _ _ e => e)
theorem own_rg {w : World} {base e : Nat} {v : Value} {l : List Pc} (h : w.ownsRow base e 2 v l.length (flatR l)) : ∃ a c, v = .slice a l.length c ∧ Rg w a l := by
  rcases h.2 with ⟨rfl, h0⟩ | ⟨g, cap, cur, rfl, hg, hh, rest⟩
  · exact ⟨none, 0, by rw [h0], .inl (List.eq_nil_of_length_eq_zero h0)⟩
  · refine ⟨_, cap, rfl, .inr ⟨g, 0, rfl, lt_of_block hh, fun i hi => ?_⟩⟩
    have h1 := h.cells (g := g) rfl (2 * i) _ (flatR_get0 l i hi)
    have h2 := h.cells (g := g) rfl (2 * i + 1) _ (flatR_get1 l i hi)
    rw [add_g] at h1 h2
    rw [show 0 + i * 2 = 2 * i by omega]
    exact ⟨h1, h2⟩
theorem row_new (w : World) (l : List Value) (t : TypeId) : ∀ (j : Nat) (u : Value), l[j]? = some u → (w.alloc (.cells l.toArray t)).cell? ((⟨w.heap.size, 0, none⟩ : Addr).add j) = some u := by
  intro j u hj
  have hb : (w.alloc (.cells l.toArray t)).heap[w.heap.size]? = some (.cells l.toArray t (0, 0)) := by
    show (w.heap.push _)[_]? = _
    simp
  rw [add_g]
  unfold World.cell?
  rw [hb]
  simpa using hj

structure OwE (W0 wr : World) (e : TypeId) (v : Value) (s : List Pc) : Prop where
  own : wr.ownsRow 0 e 2 v s.length (flatR s)
  new : ∀ g, v.ownBlock = some g → W0.heap.size ≤ g
  touch : Touch (fun _ => False) W0 wr

theorem OwE.nil (w : World) (e : TypeId) : OwE w w e (.slice none 0 0) [] := ⟨by simpa [flatR] using World.ownsRow_nil _ _ _ _, by intro g h; simp [Value.ownBlock] at h, Touch.refl _ _⟩
theorem OwE.rg {W0 wr : World} {e : TypeId} {v : Value} {s : List Pc} (h : OwE W0 wr e v s) : ∃ a c, v = .slice a s.length c ∧ Rg wr a s := own_rg h.own
theorem OwE.still {W0 wr w' : World} {e : TypeId} {v : Value} {s : List Pc} (h : OwE W0 wr e v s) (tc : Touch (fun _ => False) wr w') : OwE W0 w' e v s := by
  refine ⟨⟨h.own.1, ?_⟩, h.new, h.touch.trans tc (fun _ _ e => e)⟩
  rcases h.own.2 with h0 | ⟨g, cap, cur, hv, hg, hh, rest⟩
  · exact .inl h0
  · exact .inr ⟨g, cap, cur, hv, hg, (tc.block g (lt_of_block hh) id).trans hh, rest⟩
theorem OwE.more {W0 wr w1 : World} {e : TypeId} {v v' : Value} {s : List Pc} {xs : List Pc} {o : Obj} (h : OwE W0 wr e v s) (hown : w1.ownsRow 0 e 2 v' (s.length + xs.length) (flatR s ++ flatR xs)) (hg : (wr.alloc o).grownBy w1 v.ownBlock) (hat : v'.ownBlock = v.ownBlock ∨ v'.ownBlock = some (wr.heap.size + 1)) : OwE W0 w1 e v' (s ++ xs) := by
  refine ⟨?_, fun g hg' => ?_, (h.touch.alloc o).grown hg (fun k e hk => by have := h.new k e; omega)⟩
  · rw [List.length_append, flatR_append]
    exact hown
  · rcases hat with e | e
    · exact h.new g (by rw [← e]; exact hg')
    · rw [e] at hg'
      simp at hg'
      have := h.touch.size
      omega

end Go.Proofs.YtnohikoeaepfpaaDoor
