/- Texts of this proof, one behind the other: what each says stands ahead of it. -/
import Derived.Test.YtnohikoeaepfpaaDoorM2
import Derived.Test.YtnohikoeaepfpaaDoorM0
import Derived.Laws.OwnMore
import Derived.Lib.SmallJoins
/- Templates: first; conditions: the text is of at most 1024 bytes and not empty, the errors' values lie there. -/
namespace Go.Proofs.YtnohikoeaepfpaaDoor
open Go.RowKit
open Go.Lib

theorem results_ct {P : Program} {fn : Func} {t p : Tmp} {ty : TypeId} (h : fn.results = #[.cell p ty, .tmp t]) (tmps : Array Value) (w : World) (g : Nat) (et : TypeId) (cs : Array Value) (fr : Nat × Nat) (d : TypeDesc)
    (hp : tmps.getD p undef = .pointer (some ⟨g, 0, none⟩)) (hg : w.heap[g]? = some (.cells cs et fr))
    (hu : P.underlying ty = some d) (hd : (match d with | .struct _ | .array _ _ => true | _ => false) = true) (hi : (P.info? ty).map (·.size) = some cs.size) :
    (results fn tmps).run P w = .ok (.tuple #[.agg cs, tmps.getD t undef]) w := by
  have hp' : tmps[p]?.getD undef = .pointer (some ⟨g, 0, none⟩) := by simpa using hp
  simp [results, h, hp', asAddr, run_loadVar_row w g et ty cs fr d hg hu hd hi]
theorem results_tc {P : Program} {fn : Func} {t p : Tmp} {ty : TypeId} (h : fn.results = #[.tmp t, .cell p ty]) (tmps : Array Value) (w : World) (g : Nat) (et : TypeId) (cs : Array Value) (fr : Nat × Nat) (d : TypeDesc)
    (hp : tmps.getD p undef = .pointer (some ⟨g, 0, none⟩)) (hg : w.heap[g]? = some (.cells cs et fr))
    (hu : P.underlying ty = some d) (hd : (match d with | .struct _ | .array _ _ => true | _ => false) = true) (hi : (P.info? ty).map (·.size) = some cs.size) :
    (results fn tmps).run P w = .ok (.tuple #[tmps.getD t undef, .agg cs]) w := by
  have hp' : tmps[p]?.getD undef = .pointer (some ⟨g, 0, none⟩) := by simpa using hp
  simp [results, h, hp', asAddr, run_loadVar_row w g et ty cs fr d hg hu hd hi]
theorem two_new {w : World} (u v : Value) (t : TypeId) : (w.alloc (.cells #[u, v] t)).heap[w.heap.size]? = some (.cells #[u, v] t (0, 0)) := by
  show (w.heap.push _)[_]? = _
  simp
theorem fset {w' : World} {q : Nat} {u v : Value} {ty : TypeId} (h : w'.heap[q]? = some (.cells #[u, v] ty (0, 0))) (x y : Value) : ((w'.setCell ⟨q, 0, none⟩ x).setCell ⟨q, 1, none⟩ y).heap[q]? = some (.cells #[x, y] ty (0, 0)) := two_set1 (two_set0 h)
theorem ftouch {S : Nat → Prop} {w w' : World} {q : Nat} (T : Touch S w w') (hq : w.heap.size ≤ q) (x y : Value) : Touch S w ((w'.setCell ⟨q, 0, none⟩ x).setCell ⟨q, 1, none⟩ y) :=
  (T.setCell (p := ⟨q, 0, none⟩) (fun h => absurd h (Nat.not_lt.2 hq)) x).setCell (p := ⟨q, 1, none⟩) (fun h => absurd h (Nat.not_lt.2 hq)) y
def tkOf (k : Nat) : Option (Nat × Nat) → Tk
  | some (g, n) => if g < k then .grp g n else .bad
  | none => .bad
theorem sgTk_is (ns : List Bs) (r : Bs) : sgTk ns r = tkOf ns.length (signP ns r) := by
  unfold sgTk
  cases signP ns r <;> rfl
def tkV : Tk → Value
  | .text t n => .tuple #[.agg #[sv t, .int .i64 (-1)], .int .i64 (n : Nat)]
  | .grp g n => .tuple #[.agg #[sv [], .int .i64 (g : Nat)], .int .i64 (n : Nat)]
  | .bad => .tuple #[.agg #[sv [], .int .i64 0], .int .i64 0]
set_option maxRecDepth 100000 in
set_option maxHeartbeats 4000000 in
theorem first_any (s : ByteArray) (v : Value) (ns : List Bs) (w : World) (hs : s.size ≤ 4096) (h1 : 0 < s.size) (hN : Nl w v ns) (hn : ns.length ≤ 140737488355328) (hx : Sx w) :
    Calls Tryd.prog 12 #[.string s, v] w fun e w' => e = .returned (tkV (firstP ns s.data.toList)) ∧ Touch (fun _ => False) w w' := by
  have T0 := hid ((Touch.refl (fun _ => False) w).alloc (.cells #[.string ⟨#[]⟩, .int .i64 0] 35))
  have FB0 := hid (two_new (w := w) (.string ⟨#[]⟩) (.int .i64 0) 35)
  have N0 := hid (hN.new T0.out)
  have X0 := hid (hx.new T0.out)
  obtain ⟨a, c, rfl, _⟩ := hN
  clear hx
  have KI := hid (index_any s)
  cases hi : idxOf 36 s.data.toList with
  | none =>
    have e : firstP ns s.data.toList = .text s.data.toList s.data.toList.length := by unfold firstP; rw [hi]
    rw [e, size_list]
    rw [hi] at KI
    unfold tkV idxV at *
    dsimp only at KI ⊢
    clear e hi
    go_enter Tryd.func12, Tryd.ntmps12
    go_wp2_with fail
    generalize w.alloc (.cells #[.string ⟨#[]⟩, .int .i64 0] 35) = w0 at *
    obtain ⟨q, hq⟩ : ∃ q, q = w.heap.size := ⟨_, rfl⟩
    rw [← hq] at FB0 ⊢
    have HQ := hid (show w.heap.size ≤ q from by omega)
    clear hq
    refine (KI.out w0).mono ?_
    rintro e w1 ⟨rfl, rfl⟩
    have g0 := cell_two0 FB0.out
    have g1 := cell_two1 FB0.out
    have gf0 := free_two (i := 0) FB0.out
    have gf1 := free_two (i := 1) FB0.out
    go_wp2
    refine bodyPost_ret (results_ct rfl _ _ q 35 _ (0, 0) _ rfl (fset FB0.out _ _) Tryd.underlying35 rfl (by kernel_rfl)) rfl ?_
    exact ⟨rfl, ftouch T0.out HQ.out _ _⟩
  | some i =>
    have hlt := idx_lt hi
    rw [size_list] at hlt
    cases i with
    | succ i =>
      have e : firstP ns s.data.toList = .text (s.data.toList.take (i + 1)) (i + 1) := by unfold firstP; rw [hi]
      rw [e, ← ext_take]
      rw [hi] at KI
      unfold tkV idxV at *
      dsimp only at KI ⊢
      rw [sv_data]
      clear e hi
      have hiI : (0 : Int) < ((i + 1 : Nat) : Int) := by omega
      have hiN : ¬ ((i + 1 : Nat) : Int) < 0 := by omega
      have hiL : ((i + 1 : Nat) : Int) ≤ (s.size : Int) := by omega
      generalize i + 1 = k at *
      go_enter Tryd.func12, Tryd.ntmps12
      go_wp2_with fail
      generalize w.alloc (.cells #[.string ⟨#[]⟩, .int .i64 0] 35) = w0 at *
      obtain ⟨q, hq⟩ : ∃ q, q = w.heap.size := ⟨_, rfl⟩
      rw [← hq] at FB0 ⊢
      have HQ := hid (show w.heap.size ≤ q from by omega)
      clear hq
      refine (KI.out w0).mono ?_
      rintro e w1 ⟨rfl, rfl⟩
      have g0 := cell_two0 FB0.out
      have g1 := cell_two1 FB0.out
      have gf0 := free_two (i := 0) FB0.out
      have gf1 := free_two (i := 1) FB0.out
      go_wp2
      refine bodyPost_ret (results_ct rfl _ _ q 35 _ (0, 0) _ rfl (fset FB0.out _ _) Tryd.underlying35 rfl (by kernel_rfl)) rfl ?_
      exact ⟨rfl, ftouch T0.out HQ.out _ _⟩
    | zero =>
      obtain ⟨r, hr⟩ := idx_zero hi
      have e : firstP ns s.data.toList = if r[0]? = some 36 then .text [36] 2 else sgTk ns r := by unfold firstP; rw [hi, hr]; rfl
      rw [e]
      rw [hi] at KI
      unfold idxV at KI
      dsimp only at KI
      clear e hi
      have KP := hid (hasPrefix_any s ⟨#[36, 36]⟩)
      change Hid (∀ w, Calls Tryd.prog 20 #[.string s, .string ⟨#[36, 36]⟩] w fun e w' => e = .returned (.bool (([36, 36] : Bs).isPrefixOf s.data.toList)) ∧ w' = w) at KP
      by_cases h36 : r[0]? = some 36
      · have ep : ([36, 36] : Bs).isPrefixOf s.data.toList = true := by
          rw [hr]
          cases r with
          | nil => cases h36
          | cons x q => simp at h36; rw [h36]; rfl
        rw [if_pos h36]
        rw [ep] at KP
        unfold tkV
        dsimp only
        clear h36 ep hr
        go_enter Tryd.func12, Tryd.ntmps12
        go_wp2_with fail
        generalize w.alloc (.cells #[.string ⟨#[]⟩, .int .i64 0] 35) = w0 at *
        obtain ⟨q, hq⟩ : ∃ q, q = w.heap.size := ⟨_, rfl⟩
        rw [← hq] at FB0 ⊢
        have HQ := hid (show w.heap.size ≤ q from by omega)
        clear hq
        refine (KI.out w0).mono ?_
        rintro e w1 ⟨rfl, rfl⟩
        clear KI
        go_wp2_with fail
        refine (KP.out w1).mono ?_
        rintro e w1 ⟨rfl, rfl⟩
        clear KP
        have g0 := cell_two0 FB0.out
        have g1 := cell_two1 FB0.out
        have gf0 := free_two (i := 0) FB0.out
        have gf1 := free_two (i := 1) FB0.out
        go_wp2
        refine bodyPost_ret (results_ct rfl _ _ q 35 _ (0, 0) _ rfl (fset FB0.out _ _) Tryd.underlying35 rfl (by kernel_rfl)) rfl ?_
        exact ⟨rfl, ftouch T0.out HQ.out _ _⟩
      · have ep : ([36, 36] : Bs).isPrefixOf s.data.toList = false := by
          rw [hr]
          cases r with
          | nil => rfl
          | cons x q =>
            have : x ≠ 36 := fun e => h36 (by rw [e]; rfl)
            simp [List.isPrefixOf, this.symm]
        rw [if_neg h36]
        rw [ep] at KP
        have KS := hid (sign_any s r _ ns _ hs hr N0.out hn X0.out)
        obtain ⟨S, hS⟩ : ∃ S, S = signP ns r := ⟨_, rfl⟩
        have HS := hid (show sgTk ns r = tkOf ns.length S from by rw [hS, sgTk_is])
        rw [← hS] at KS
        rw [HS.out]
        obtain ⟨V, hV⟩ : ∃ V, V = tkV (tkOf ns.length S) := ⟨_, rfl⟩
        have HV := hid hV
        rw [← hV]
        clear hV
        have HSN := hid (show ∀ g n, S = some (g, n) → n ≤ 4096 from by
          intro g n hgn
          have := sign_size (hS ▸ hgn)
          have e2 : s.size = r.length + 1 := by rw [← size_list, hr]; rfl
          omega)
        clear h36 ep hr HS hS N0 X0
        go_enter Tryd.func12, Tryd.ntmps12
        go_wp2_with fail
        generalize w.alloc (.cells #[.string ⟨#[]⟩, .int .i64 0] 35) = w0 at *
        obtain ⟨q, hq⟩ : ∃ q, q = w.heap.size := ⟨_, rfl⟩
        rw [← hq] at FB0 ⊢
        have HQ := hid (show w.heap.size ≤ q from by omega)
        clear hq
        refine (KI.out w0).mono ?_
        rintro e w1 ⟨rfl, rfl⟩
        clear KI
        go_wp2_with fail
        refine (KP.out w1).mono ?_
        rintro e w1 ⟨rfl, rfl⟩
        clear KP
        go_wp2_with fail
        refine KS.out.mono ?_
        rintro e w2 ⟨g, n, rfl, hsg, t2⟩
        clear KS
        have T2 := hid (T0.out.trans t2 (fun _ _ e => e))
        have FB2 := hid ((t2.block q (lt_of_block FB0.out) id).trans FB0.out)
        clear t2 T0 FB0
        have g0 := cell_two0 FB2.out
        have g1 := cell_two1 FB2.out
        have gf0 := free_two (i := 0) FB2.out
        have gf1 := free_two (i := 1) FB2.out
        cases S with
        | none =>
          have hg : g = -1 := hsg
          subst hg
          clear hsg
          go_wp2
          refine bodyPost_ret (results_ct rfl _ _ q 35 _ (0, 0) _ rfl (fset FB2.out _ _) Tryd.underlying35 rfl (by kernel_rfl)) rfl ?_
          exact ⟨by rw [HV.out]; rfl, ftouch T2.out HQ.out _ _⟩
        | some x =>
          obtain ⟨g', n'⟩ := x
          obtain ⟨rfl, rfl⟩ := hsg
          unfold tkOf at HV
          dsimp only at HV
          have hg0 : ¬ (g' : Int) < 0 := by omega
          by_cases hgl : g' < ns.length
          · rw [if_pos hgl] at HV
            have hgI : ¬ (ns.length : Int) ≤ (g' : Int) := by omega
            go_wp2
            refine bodyPost_ret (results_ct rfl _ _ q 35 _ (0, 0) _ rfl (fset FB2.out _ _) Tryd.underlying35 rfl (by kernel_rfl)) rfl ?_
            exact ⟨by rw [HV.out]; rfl, ftouch T2.out HQ.out _ _⟩
          · rw [if_neg hgl] at HV
            have hgI : (ns.length : Int) ≤ (g' : Int) := by omega
            go_wp2
            refine bodyPost_ret (results_ct rfl _ _ q 35 _ (0, 0) _ rfl (fset FB2.out _ _) Tryd.underlying35 rfl (by kernel_rfl)) rfl ?_
            exact ⟨by rw [HV.out]; rfl, ftouch T2.out HQ.out _ _⟩
end Go.Proofs.YtnohikoeaepfpaaDoor

/- Lists of pieces in memory; no condition. -/
namespace Go.Proofs.YtnohikoeaepfpaaDoor
open Go.RowKit

theorem info35 : (Tryd.prog.info? 35).map (fun i => (i.zero, i.size, i.bytes)) = some (some (.agg #[.string ⟨#[]⟩, .int .i64 0]), 2, 24) := by kernel_rfl
theorem info57 : (Tryd.prog.info? 57).map (fun i => (i.zero, i.size, i.bytes)) = some (some (.agg #[.string ⟨#[]⟩, .int .i64 0]), 2, 24) := by kernel_rfl
def gv (g : Int) : Value := .int .i64 g
def encR (x : Pc) : List Value := [sv x.t, gv x.g]
def flatR (l : List Pc) : List Value := l.flatMap encR
theorem flatR_append (l m : List Pc) : flatR (l ++ m) = flatR l ++ flatR m := by simp [flatR]
theorem length_flatR (l : List Pc) : (flatR l).length = l.length * 2 := by
  induction l with
  | nil => rfl
  | cons x r ih => simp only [flatR, List.flatMap_cons, List.length_append, List.length_cons] at ih ⊢; rw [ih]; simp [encR]; omega
theorem flatR_get0 : ∀ (l : List Pc) (i : Nat) (h : i < l.length), (flatR l)[2 * i]? = some (sv (l[i]).t)
  | x :: r, 0, _ => rfl
  | x :: r, i + 1, h => by
    have := flatR_get0 r i (by simpa using h)
    show (encR x ++ flatR r)[2 * (i + 1)]? = _
    rw [List.getElem?_append_right (by simp [encR]; omega)]
    simpa [encR, show 2 * (i + 1) - 2 = 2 * i by omega] using this
theorem flatR_get1 : ∀ (l : List Pc) (i : Nat) (h : i < l.length), (flatR l)[2 * i + 1]? = some (gv (l[i]).g)
  | x :: r, 0, _ => rfl
  | x :: r, i + 1, h => by
    have := flatR_get1 r i (by simpa using h)
    show (encR x ++ flatR r)[2 * (i + 1) + 1]? = _
    rw [List.getElem?_append_right (by simp [encR]; omega)]
    simpa [encR, show 2 * (i + 1) + 1 - 2 = 2 * i + 1 by omega] using this
theorem flatR_one (l : List Pc) : ∀ u ∈ flatR l, u.oneCell' = true := by
  intro u hu
  simp only [flatR, List.mem_flatMap, encR] at hu
  obtain ⟨x, _, hx⟩ := hu
  simp at hx
  rcases hx with rfl | rfl <;> rfl

theorem add_g (g j : Nat) : (⟨g, 0, none⟩ : Addr).add j = ⟨g, j, none⟩ := by
  unfold Addr.add
  split
  · rename_i h; rw [h]
  · rw [Nat.zero_add]

/-- A list of ranges in memory, as a walk is told of it. -/
def Rg (w : World) (a : Option Addr) (l : List Pc) : Prop :=
  l = [] ∨ ∃ b o, a = some ⟨b, o, none⟩ ∧ b < w.heap.size ∧ ∀ i (h : i < l.length), w.cell? ⟨b, o + i * 2, none⟩ = some (sv (l[i]).t) ∧ w.cell? ⟨b, o + i * 2 + 1, none⟩ = some (gv (l[i]).g)

theorem Rg.kept {w w' : World} {S : Nat → Prop} {a : Option Addr} {l : List Pc} (h : Rg w a l) (t : Touch S w w') (hs : ∀ b o, a = some ⟨b, o, none⟩ → b < w.heap.size → ¬ S b) : Rg w' a l := by
  rcases h with h | ⟨b, o, rfl, hb, hc⟩
  · exact .inl h
  · refine .inr ⟨b, o, rfl, Nat.lt_of_lt_of_le hb t.size, fun i hi => ?_⟩
    rw [t.cell (p := ⟨b, o + i * 2, none⟩) hb (hs b o rfl hb), t.cell (p := ⟨b, o + i * 2 + 1, none⟩) hb (hs b o rfl hb)]
    exact hc i hi
theorem Rg.new {w w' : World} {a : Option Addr} {l : List Pc} (h : Rg w a l) (t : Touch (fun _ => False) w w') : Rg w' a l := h.kept t (fun _ _ _ _ e => e)
theorem own_rg {w : World} {base e : Nat} {v : Value} {l : List Pc} (h : w.ownsRow base e 2 v l.length (flatR l)) : ∃ a c, v = .slice a l.length c ∧ Rg w a l := by
  rcases h.2 with ⟨rfl, h0⟩ | ⟨g, cap, cur, rfl, hg, hh, rest⟩
  · exact ⟨none, 0, by rw [h0], .inl (List.eq_nil_of_length_eq_zero h0)⟩
  · refine ⟨_, cap, rfl, .inr ⟨g, 0, rfl, lt_of_block hh, fun i hi => ?_⟩⟩
    have h1 := h.cells (g := g) rfl (2 * i) _ (flatR_get0 l i hi)
    have h2 := h.cells (g := g) rfl (2 * i + 1) _ (flatR_get1 l i hi)
    rw [add_g] at h1 h2
    rw [show 0 + i * 2 = 2 * i by omega]
    exact ⟨h1, h2⟩
theorem row_new (w : World) (l : List Value) (t : TypeId) : ∀ (j : Nat) (u : Value), l[j]? = some u → (w.alloc (.cells l.toArray t)).cell? ((⟨w.heap.size, 0, none⟩ : Addr).add j) = some u := by
  intro j u hj
  have hb : (w.alloc (.cells l.toArray t)).heap[w.heap.size]? = some (.cells l.toArray t (0, 0)) := by
    show (w.heap.push _)[_]? = _
    simp
  rw [add_g]
  unfold World.cell?
  rw [hb]
  simpa using hj

structure OwE (W0 wr : World) (e : TypeId) (v : Value) (s : List Pc) : Prop where
  own : wr.ownsRow 0 e 2 v s.length (flatR s)
  new : ∀ g, v.ownBlock = some g → W0.heap.size ≤ g
  touch : Touch (fun _ => False) W0 wr

theorem OwE.nil (w : World) (e : TypeId) : OwE w w e (.slice none 0 0) [] := ⟨by simpa [flatR] using World.ownsRow_nil _ _ _ _, by intro g h; simp [Value.ownBlock] at h, Touch.refl _ _⟩
theorem OwE.rg {W0 wr : World} {e : TypeId} {v : Value} {s : List Pc} (h : OwE W0 wr e v s) : ∃ a c, v = .slice a s.length c ∧ Rg wr a s := own_rg h.own
theorem OwE.still {W0 wr w' : World} {e : TypeId} {v : Value} {s : List Pc} (h : OwE W0 wr e v s) (tc : Touch (fun _ => False) wr w') : OwE W0 w' e v s := by
  refine ⟨⟨h.own.1, ?_⟩, h.new, h.touch.trans tc (fun _ _ e => e)⟩
  rcases h.own.2 with h0 | ⟨g, cap, cur, hv, hg, hh, rest⟩
  · exact .inl h0
  · exact .inr ⟨g, cap, cur, hv, hg, (tc.block g (lt_of_block hh) id).trans hh, rest⟩
theorem OwE.more {W0 wr w1 : World} {e : TypeId} {v v' : Value} {s : List Pc} {xs : List Pc} {o : Obj} (h : OwE W0 wr e v s) (hown : w1.ownsRow 0 e 2 v' (s.length + xs.length) (flatR s ++ flatR xs)) (hg : (wr.alloc o).grownBy w1 v.ownBlock) (hat : v'.ownBlock = v.ownBlock ∨ v'.ownBlock = some (wr.heap.size + 1)) : OwE W0 w1 e v' (s ++ xs) := by
  refine ⟨?_, fun g hg' => ?_, (h.touch.alloc o).grown hg (fun k e hk => by have := h.new k e; omega)⟩
  · rw [List.length_append, flatR_append]
    exact hown
  · rcases hat with e | e
    · exact h.new g (by rw [← e]; exact hg')
    · rw [e] at hg'
      simp at hg'
      have := h.touch.size
      omega

end Go.Proofs.YtnohikoeaepfpaaDoor

/- join: a piece behind others; condition: the texts are short. -/
namespace Go.Proofs.YtnohikoeaepfpaaDoor
open Go.RowKit

def J (l : List Pc) (x : Pc) : List Pc := match l[l.length - 1]? with
  | some q => if q.g = -1 ∧ x.g = -1 then l.set (l.length - 1) ⟨q.t ++ x.t, q.g⟩ else l ++ [x]
  | none => l ++ [x]
theorem flatR_set0 : ∀ (l : List Pc) (i : Nat) (h : i < l.length) (t : Bs), flatR (l.set i ⟨t, (l[i]).g⟩) = (flatR l).set (2 * i) (sv t)
  | x :: r, 0, _, t => rfl
  | x :: r, i + 1, h, t => by
    have ih := flatR_set0 r i (by simpa using h) t
    show encR x ++ flatR (r.set i _) = (encR x ++ flatR r).set (2 * (i + 1)) (sv t)
    rw [List.set_append_right _ _ (by simp [encR]; omega)]
    simp only [List.getElem_cons_succ]
    rw [ih]
    simp [encR, show 2 * (i + 1) - 2 = 2 * i by omega]
theorem row_new1 (w : World) (o : Obj) (l : List Value) (t : TypeId) : ∀ (j : Nat) (u : Value), l[j]? = some u → ((w.alloc o).alloc (.cells l.toArray t)).cell? ((⟨w.heap.size + 1, 0, none⟩ : Addr).add j) = some u := by
  have h := row_new (w.alloc o) l t
  rw [show (w.alloc o).heap.size = w.heap.size + 1 from by show (w.heap.push o).size = _; simp] at h
  exact h
theorem OwE.moreA {W0 wr w1 : World} {e : TypeId} {v v' : Value} {s : List Pc} {xs : List Pc} {o : Obj} {k : Nat} (h : OwE W0 wr e v s) (hown : w1.ownsRow 0 e 2 v' (s.length + xs.length) (flatR s ++ flatR xs)) (hg : (wr.alloc o).grownBy w1 v.ownBlock) (hat : v'.ownBlock = v.ownBlock ∨ v'.ownBlock = some k) (hk : wr.heap.size ≤ k) : OwE W0 w1 e v' (s ++ xs) := by
  refine ⟨?_, fun g hg' => ?_, (h.touch.alloc o).grown hg (fun k e hk => by have := h.new k e; omega)⟩
  · rw [List.length_append, flatR_append]
    exact hown
  · rcases hat with e | e
    · exact h.new g (by rw [← e]; exact hg')
    · rw [e] at hg'
      simp at hg'
      have := h.touch.size
      omega
theorem size_alloc (w : World) (o : Obj) : (w.alloc o).heap.size = w.heap.size + 1 := by
  show (w.heap.push o).size = _
  simp
theorem sv_add (a b : Bs) : (⟨a.toArray⟩ : ByteArray) ++ ⟨b.toArray⟩ = ⟨(a ++ b).toArray⟩ := by
  apply ByteArray.ext
  simp [ByteArray.data_append]
set_option maxRecDepth 100000 in
set_option maxHeartbeats 4000000 in
theorem join_any (W0 wr : World) (v : Value) (l : List Pc) (x : Pc) (h : OwE W0 wr 35 v l) (hl : l.length ≤ 4096) (ht : ∀ q ∈ l, q.t.length ≤ 4096) (hx : x.t.length ≤ 4096) :
    Calls Tryd.prog 13 #[v, .agg #[sv x.t, gv x.g]] wr fun e w' => ∃ v', e = .returned v' ∧ OwE W0 w' 35 v' (J l x) := by
  obtain ⟨i0, hi, hz0, hz1, hz2⟩ := info_parts info35
  obtain ⟨xt, xg⟩ := x
  dsimp only at hx ⊢
  obtain ⟨a, c, hv⟩ := own_shape h.own
  subst hv
  have OW := hid h
  clear h
  by_cases h0 : l.length = 0
  · have hJ : J l ⟨xt, xg⟩ = l ++ [⟨xt, xg⟩] := by
      obtain rfl : l = [] := List.eq_nil_of_length_eq_zero h0
      rfl
    rw [hJ]
    have hneg : ¬ (0 : Int) ≤ (l.length : Int) - 1 := by omega
    clear h0 ht hJ
    have OW1 := hid (OW.out.still ((Touch.refl _ _).alloc (.cells #[sv xt, gv xg] 35)))
    clear OW
    go_enter Tryd.func13, Tryd.ntmps13
    go_wp2_with (at_builtin; refine wpList_append_own_at _ rfl _ _ 24 rfl 0 35 i0 (.agg #[.string ⟨#[]⟩, .int .i64 0]) 2 24 Tryd.underlying24 hi hz0 hz1 hz2 rfl (by decide) _ _ _ rfl (OW1.out.own.alloc _) ⟨wr.heap.size + 1, 0, none⟩ 1 1 [sv xt, gv xg] rfl rfl (row_new1 wr (.cells #[sv xt, gv xg] 35) [sv xt, gv xg] 35) (by intro u hu; simp at hu; rcases hu with rfl | rfl <;> rfl) (by unfold maxLen; omega) (by omega) (Nat.zero_le _) ?_)
    intro v4' w4 hown hgrow _ hat
    have P4 := hid (OW1.out.moreA (xs := [⟨xt, xg⟩]) hown hgrow hat (by rw [size_alloc]; omega))
    clear hown hgrow hat
    go_wp2
    go_ret
    exact ⟨_, rfl, P4.out⟩
  · obtain ⟨n, hn⟩ : ∃ n, l.length = n + 1 := ⟨l.length - 1, by omega⟩
    have hlt : n < l.length := by omega
    obtain ⟨q, hq⟩ : ∃ q, q = l[n] := ⟨_, rfl⟩
    have hJ : J l ⟨xt, xg⟩ = if q.g = -1 ∧ xg = -1 then l.set n ⟨q.t ++ xt, q.g⟩ else l ++ [⟨xt, xg⟩] := by
      unfold J
      rw [hn, Nat.add_sub_cancel, List.getElem?_eq_getElem hlt, hq]
    have hqt : q.t.length ≤ 4096 := ht q (by rw [hq]; exact List.getElem_mem hlt)
    rw [hJ]
    have OW1 := hid (OW.out.still ((Touch.refl _ _).alloc (.cells #[sv xt, gv xg] 35)))
    obtain ⟨g, cap, cur, hv, hg, hh, rest⟩ : ∃ g cap cur, Value.slice a l.length c = .slice (some ⟨g, 0, none⟩) l.length cap ∧ 0 ≤ g ∧ (wr.alloc (.cells #[sv xt, gv xg] 35)).heap[g]? = some (.cells cur 35 (0, 0)) ∧ l.length ≤ cap ∧ cap ≤ maxLen ∧ cur.size = cap * 2 ∧ cur.toList.take (l.length * 2) = flatR l := by
      rcases OW1.out.own.2 with ⟨_, e⟩ | e
      · omega
      · exact e
    cases hv
    clear hg rest hJ h0
    have HQ := hid hq
    have hc0 : (wr.alloc (.cells #[sv xt, gv xg] 35)).cell? ⟨g, n * 2, none⟩ = some (sv q.t) := by
      have := OW1.out.own.cells (g := g) rfl (2 * n) _ (flatR_get0 l n hlt)
      rw [add_g] at this
      rw [show n * 2 = 2 * n by omega, hq]
      exact this
    have hc1 : (wr.alloc (.cells #[sv xt, gv xg] 35)).cell? ⟨g, n * 2 + 1, none⟩ = some (gv q.g) := by
      have := OW1.out.own.cells (g := g) rfl (2 * n + 1) _ (flatR_get1 l n hlt)
      rw [add_g] at this
      rw [show n * 2 = 2 * n by omega, hq]
      exact this
    have hfz : (wr.alloc (.cells #[sv xt, gv xg] 35)).frozen? ⟨g, n * 2, none⟩ = false := by simp [World.frozen?, hh]
    have B0 := hid (show (wr.alloc (.cells #[sv xt, gv xg] 35)).heap[wr.heap.size]? = some (.cells #[sv xt, gv xg] 35 (0, 0)) from by show (wr.heap.push _)[_]? = _; simp)
    have b0 := cell_two0 B0.out
    have b1 := cell_two1 B0.out
    clear hh hq
    unfold sv gv at hc0 hc1 b0 b1 ⊢
    obtain ⟨qt, qg⟩ := q
    dsimp only at hc0 hc1 hqt HQ ⊢
    have hn1 : (l.length : Int) - 1 = (n : Int) := by omega
    have hpos : (0 : Int) ≤ (n : Int) := by omega
    clear hn
    go_enter Tryd.func13, Tryd.ntmps13
    by_cases hqg : qg = -1
    · by_cases hxg : xg = -1
      · subst hqg hxg
        have hadd := sv_add qt xt
        rw [if_pos ⟨rfl, rfl⟩]
        have HG := hid (show W0.heap.size ≤ g from OW.out.new g rfl)
        clear OW B0
        change Hid (OwE W0 (wr.alloc (.cells #[.string ⟨xt.toArray⟩, .int .i64 (-1)] 35)) 35 (.slice (some ⟨g, 0, none⟩) l.length c) l) at OW1
        change (wr.alloc (.cells #[.string ⟨xt.toArray⟩, .int .i64 (-1)] 35)).frozen? ⟨g, n * 2, none⟩ = false at hfz
        go_wp2
        generalize wr.alloc (.cells #[.string ⟨xt.toArray⟩, .int .i64 (-1)] 35) = wA at *
        go_region
        all_goals
          go_wp2
          go_ret
          refine ⟨_, rfl, ⟨?_, ?_, ?_⟩⟩
          · have h := OW1.out.own.stored (2 * n) (sv (qt ++ xt))
            rw [List.length_set]
            have e : flatR (l.set n ⟨qt ++ xt, -1⟩) = (flatR l).set (2 * n) (sv (qt ++ xt)) := by
              have := flatR_set0 l n hlt (qt ++ xt)
              rw [← HQ.out] at this
              exact this
            rw [e]
            rw [show 2 * n = n * 2 by omega] at h ⊢
            exact h.1.drew
          · intro k hk
            simp [Value.ownBlock] at hk
            have := HG.out
            omega
          · exact (OW1.out.touch.setCell (p := ⟨g, n * 2, none⟩) (fun hb => by have := HG.out; simp at hb; omega) _).drew
      · rw [if_neg (fun e => hxg e.2)]
        change Hid (OwE W0 (wr.alloc (.cells #[.string ⟨xt.toArray⟩, .int .i64 xg] 35)) 35 (.slice (some ⟨g, 0, none⟩) l.length c) l) at OW1
        subst hqg
        go_wp2_with (at_builtin; refine wpList_append_own_at _ rfl _ _ 24 rfl 0 35 i0 (.agg #[.string ⟨#[]⟩, .int .i64 0]) 2 24 Tryd.underlying24 hi hz0 hz1 hz2 rfl (by decide) _ _ _ rfl (OW1.out.own.alloc _) ⟨wr.heap.size + 1, 0, none⟩ 1 1 [sv xt, gv xg] rfl rfl (row_new1 wr (.cells #[sv xt, gv xg] 35) [sv xt, gv xg] 35) (by intro u hu; simp at hu; rcases hu with rfl | rfl <;> rfl) (by unfold maxLen; omega) (by omega) (Nat.zero_le _) ?_)
        intro v4' w4 hown hgrow _ hat
        have P4 := hid (OW1.out.moreA (xs := [⟨xt, xg⟩]) hown hgrow hat (by rw [size_alloc]; omega))
        clear hown hgrow hat
        go_wp2
        go_ret
        exact ⟨_, rfl, P4.out⟩
    · rw [if_neg (fun e => hqg e.1)]
      change Hid (OwE W0 (wr.alloc (.cells #[.string ⟨xt.toArray⟩, .int .i64 xg] 35)) 35 (.slice (some ⟨g, 0, none⟩) l.length c) l) at OW1
      go_wp2_with (at_builtin; refine wpList_append_own_at _ rfl _ _ 24 rfl 0 35 i0 (.agg #[.string ⟨#[]⟩, .int .i64 0]) 2 24 Tryd.underlying24 hi hz0 hz1 hz2 rfl (by decide) _ _ _ rfl (OW1.out.own.alloc _) ⟨wr.heap.size + 1, 0, none⟩ 1 1 [sv xt, gv xg] rfl rfl (row_new1 wr (.cells #[sv xt, gv xg] 35) [sv xt, gv xg] 35) (by intro u hu; simp at hu; rcases hu with rfl | rfl <;> rfl) (by unfold maxLen; omega) (by omega) (Nat.zero_le _) ?_)
      intro v4' w4 hown hgrow _ hat
      have P4 := hid (OW1.out.moreA (xs := [⟨xt, xg⟩]) hown hgrow hat (by rw [size_alloc]; omega))
      clear hown hgrow hat
      go_wp2
      go_ret
      exact ⟨_, rfl, P4.out⟩
end Go.Proofs.YtnohikoeaepfpaaDoor
