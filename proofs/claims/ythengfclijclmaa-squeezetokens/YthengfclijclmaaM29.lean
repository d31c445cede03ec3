/- Texts of this proof, one behind the other: what each says stands ahead of it. -/
import Derived.Test.YthengfclijclmaaM27
import Derived.Test.YthengfclijclmaaM26
import Derived.Test.YthengfclijclmaaM21
import Derived.Test.YthengfclijclmaaM28
/- Spans that are none; what find tells stands there; conditions: those told. -/
namespace Go.Proofs.Ythengfclijclmaa
open Go.RowKit
open Go.Lib

set_option maxRecDepth 100000 in
set_option maxHeartbeats 8000000 in
theorem tok10_nil (d : ByteArray) (a b r : Int) (w : World) (h : a < 0 ∨ b < a ∨ (d.size : Int) < b) : Calls Try.prog 10 #[.string d, .int .i64 a, .int .i64 b, .int .i64 r] w fun e w' => e = .returned (.slice none 0 0) ∧ w' = w := by
  by_cases h1 : a < 0
  · clear h
    go_enter Try.func10, Try.ntmps10
    go_wp2_with fail
    go_ret
    exact ⟨rfl, rfl⟩
  · by_cases h2 : b < a
    · clear h
      go_enter Try.func10, Try.ntmps10
      go_wp2_with fail
      go_ret
      exact ⟨rfl, rfl⟩
    · have h3 : (d.size : Int) < b := by omega
      clear h
      go_enter Try.func10, Try.ntmps10
      go_wp2_with fail
      go_ret
      exact ⟨rfl, rfl⟩
set_option maxRecDepth 100000 in
set_option maxHeartbeats 8000000 in
theorem rtok_nil (d : ByteArray) (a b r : Int) (w : World) (h : a < 0 ∨ b < a ∨ (d.size : Int) < b) : Calls Try.prog 11 #[.string d, .int .i64 a, .int .i64 b, .int .i64 r] w fun e w' => e = .returned (.slice none 0 0) ∧ w' = w := by
  by_cases h1 : a < 0
  · clear h
    go_enter Try.func11, Try.ntmps11
    go_wp2_with fail
    go_ret
    exact ⟨rfl, rfl⟩
  · by_cases h2 : b < a
    · clear h
      go_enter Try.func11, Try.ntmps11
      go_wp2_with fail
      go_ret
      exact ⟨rfl, rfl⟩
    · have h3 : (d.size : Int) < b := by omega
      clear h
      go_enter Try.func11, Try.ntmps11
      go_wp2_with fail
      go_ret
      exact ⟨rfl, rfl⟩
theorem bstGo_back (d : ByteArray) (p most lim : Nat) : ∀ (h e len dist : Nat), 1 ≤ e → (dist = 0 ∨ (1 ≤ dist ∧ dist ≤ lim ∧ 3 ≤ len ∧ len = eqN d (p - dist) p most 0)) → 2 ≤ len →
    (bstGo d p most lim h e len dist).2 = 0 ∨ (1 ≤ (bstGo d p most lim h e len dist).2 ∧ (bstGo d p most lim h e len dist).2 ≤ lim ∧ 3 ≤ (bstGo d p most lim h e len dist).1 ∧ (bstGo d p most lim h e len dist).1 = eqN d (p - (bstGo d p most lim h e len dist).2) p most 0)
  | 0, _, _, _, _, hi, _ => hi
  | h + 1, e, len, dist, he, hi, h2 => by
    unfold bstGo
    by_cases hl : e ≤ lim
    · rw [if_pos hl]
      by_cases hb : len < eqN d (p - e) p most 0
      · rw [if_pos hb]
        exact bstGo_back d p most lim h (e + 1) _ _ (by omega) (.inr ⟨he, hl, by omega, rfl⟩) (by omega)
      · rw [if_neg hb]
        exact bstGo_back d p most lim h (e + 1) _ _ (by omega) hi h2
    · rw [if_neg hl]
      exact hi
/-- What find tells stands there. -/
theorem fnd_back (d : ByteArray) (f p t R : Nat) (hf : f + R ≤ p ∨ f = 0) (h : ¬ (fnd d f p t R).1 < 3) : 1 ≤ (fnd d f p t R).2 ∧ (fnd d f p t R).2 ≤ p ∧ p + (fnd d f p t R).1 ≤ t ∧ ∀ j, j < (fnd d f p t R).1 → Bt.byteN d (p + j - (fnd d f p t R).2) = Bt.byteN d (p + j) := by
  obtain ⟨lim, hlim⟩ : ∃ lim, lim = min R p := ⟨_, rfl⟩
  have hi := fnd_is d f p t R lim hlim hf
  have hk := bstGo_back d p (min 258 (t - p)) lim lim 1 2 0 (Nat.le_refl _) (.inl rfl) (Nat.le_refl _)
  have hle := fnd_le d f p t R
  generalize bstGo d p (min 258 (t - p)) lim lim 1 2 0 = x at *
  by_cases hz : x.2 = 0
  · rw [if_pos hz] at hi
    rw [hi] at h
    exact absurd (by decide) h
  · rw [if_neg hz] at hi
    rw [hi] at h hle ⊢
    rcases hk with hk | ⟨k1, k2, k3, k4⟩
    · exact absurd hk hz
    · refine ⟨k1, by omega, by omega, fun j hj => ?_⟩
      have := eqN_byte d (p - x.2) p (min 258 (t - p)) 0 j (Nat.zero_le _) (by omega)
      rw [← this]
      congr 1
      omega
end Go.Proofs.Ythengfclijclmaa

/- A list of bytes made of a text, and append to it; conditions: those told. -/
namespace Go.Proofs.Ythengfclijclmaa
open Go.RowKit
open Go.Lib

theorem infoU5' : (Try.prog.info? 5).map (fun i => (i.zero, i.size, i.bytes)) = some (some (.int .u8 0), 1, 1) := by kernel_rfl
/-- A list of bytes that is the call's own; its block may bear a mark behind its end, as one that was made of a text. -/
def OwM (W0 w : World) (v : Value) (s : List Value) : Prop := ∃ (g cap : Nat) (cur : Array Value) (fr : Nat × Nat), v = .slice (some ⟨g, 0, none⟩) s.length cap ∧ W0.heap.size ≤ g ∧ w.heap[g]? = some (.cells cur 5 fr) ∧ s.length ≤ cap ∧ cap ≤ maxLen ∧ cur.size = cap ∧ cur.toList.take s.length = s ∧ (fr = (0, 0) ∨ fr.1 = cap)
theorem OwM.kept {W0 w w' : World} {v : Value} {s : List Value} (h : OwM W0 w v s) (hk : ∀ g, v.ownBlock = some g → w'.heap[g]? = w.heap[g]?) : OwM W0 w' v s := by
  obtain ⟨g, cap, cur, fr, rfl, h1, h2, h3⟩ := h
  exact ⟨g, cap, cur, fr, rfl, h1, (hk g rfl).trans h2, h3⟩
theorem OwM.cells {W0 w : World} {v : Value} {s : List Value} (h : OwM W0 w v s) {g : Nat} (hg : v.ownBlock = some g) : ∀ j u, s[j]? = some u → w.cell? ((⟨g, 0, none⟩ : Addr).add j) = some u := by
  obtain ⟨g', cap, cur, fr, rfl, _, hb, hle, _, hcs, htk, _⟩ := h
  simp [Value.ownBlock] at hg
  subst hg
  intro j u hj
  have hjl : j < s.length := (List.getElem?_eq_some_iff.1 hj).1
  rw [add_zero]
  simp only [World.cell?, hb, Option.isSome_none, Bool.false_eq_true, if_false]
  have : (cur.toList.take s.length)[j]? = some u := by rw [htk]; exact hj
  rw [List.getElem?_take_of_lt hjl] at this
  simpa using this
theorem run_append_M {W0 w : World} {v : Value} {s : List Value} (h : OwM W0 w v s) (ad : Addr) (c : Nat) (x : Value) (hx1 : x.oneCell' = true) (hnews : ∀ j u, [x][j]? = some u → w.cell? (ad.add j) = some u) (hs : s.length + 1 ≤ 1048576) (h0 : W0.heap.size ≤ w.heap.size) (ty : TypeId) :
    ∃ v' w', (Builtin.append_ #[25, 25] ty #[v, .slice (some ad) 1 c]).run Try.prog w = .ok v' w' ∧ OwM W0 w' v' (s ++ [x]) ∧ w.grownBy w' v.ownBlock := by
  obtain ⟨i, hi, hz0, hz1, hz2⟩ := info_parts infoU5'
  have hall := fun (g : Nat) (e : v.ownBlock = some g) => h.cells e
  obtain ⟨g, cap, cur, fr, rfl, hg0, hb, hle, hcm, hcs, htk, hfr⟩ := h
  by_cases hroom : s.length + 1 ≤ cap
  · have hf := run_firstCells_some (P := Try.prog) w i.size 1 ad 1 c [x] (by simp [hz1]) hnews
    have hlt : s.length < cur.size := by omega
    have hcell : w.cell? ⟨g, s.length, none⟩ = some cur[s.length] := by simp [World.cell?, hb, hlt]
    have hfro : w.frozen? ⟨g, s.length, none⟩ = false := by
      obtain ⟨lo, hi'⟩ := fr
      simp only [World.frozen?, hb]
      rcases hfr with e | e
      · simp at e
        simp [e.2]
      · simp at e
        simp
        omega
    have hadd : (⟨g, s.length, none⟩ : Addr).add 0 = ⟨g, s.length, none⟩ := by unfold Addr.add; split <;> simp_all
    have hst : (storeCells ⟨g, s.length, none⟩ [x] 0).run Try.prog w = .ok () (w.setRow g (cur.setIfInBounds s.length x)) := by
      simp only [storeCells, Sem.run_bind]
      rw [hadd, run_store Try.prog w _ x _ hx1, hcell]
      simp [hfro, setCell_eq_setRow w g s.length cur 5 fr x hb]
    refine ⟨.slice (some ⟨g, 0, none⟩) (s.length + 1) cap, w.setRow g (cur.setIfInBounds s.length x), ?_, ⟨g, cap, _, fr, by simp, hg0, setRow_heap w g cur _ 5 fr hb, by simp; omega, hcm, by simp [hcs], ?_, hfr⟩, ⟨rfl, rfl, rfl, by simp, fun k _ hk => setRow_other w g k _ (fun e => hk (by simp [Value.ownBlock, e]))⟩⟩
    · simp [Builtin.append_, run_underlying Try.underlying25, sizeOf, typeInfo, hi, hz1, Builtin.lenOf, hroom, Addr.add_lit] at hf ⊢
      rw [hf]
      simp [hst]
    · apply List.ext_getElem?
      intro j
      have htj : (cur.toList.take s.length)[j]? = s[j]? := by rw [htk]
      simp only [List.length_append, List.length_singleton, Array.toList_setIfInBounds, List.getElem?_take, List.getElem?_set, List.getElem?_append] at htj ⊢
      by_cases hj : j < s.length
      · rw [if_pos (by omega), if_neg (by omega), if_pos hj]
        rw [if_pos hj] at htj
        exact htj
      · by_cases hj2 : j = s.length
        · subst hj2
          simp [hcs]
          omega
        · rw [if_neg (by omega), if_neg hj]
          symm
          simp
          omega
  · have hr := run_append_grow (P := Try.prog) w 25 ty 5 i (.int .u8 0) Try.underlying25 hi hz0 ⟨g, 0, none⟩ s.length cap s (by rw [hz1]; omega) (hall g rfl) ad 1 c [x] (by simp [hz1]) hnews (by omega) (by omega) (growslice_fits (by omega) (by rw [hz2]; omega))
    have hge := grownCap_ge w (s.length + 1) cap 5
    refine ⟨_, _, hr, ⟨w.heap.size, grownCap w (s.length + 1) cap 5, _, (0, 0), by simp, h0, heap_alloc_new w.drew _, by simp; omega, grownCap_le_maxLen w (s.length + 1) cap 5 (by unfold maxLen; omega), ?_, ?_, .inl rfl⟩, ⟨rfl, rfl, rfl, by simp, fun k hk _ => by first | exact heap_alloc_old w.drew _ hk | exact heap_alloc_old _ hk | exact heap_alloc_old hk⟩⟩
    · have hzc : (Value.int .u8 0).cells.size = 1 := by rfl
      simp only [Array.size_append, List.size_toArray, size_zeroCells, hzc, List.length_singleton]
      omega
    · simp only [Array.toList_append]
      exact List.take_left
/-- What []byte(s) gives. -/
theorem own_conv (w : World) (s : ByteArray) (hs : s.size ≤ 1048576) : ∃ v w', (convert 9 25 (.string s)).run Try.prog w = .ok v w' ∧ OwM w w' v (s.data.toList.map fun b => .int .u8 (b.toNat : Int)) ∧ Touch (fun _ => False) w w' := by
  have hr := run_bytes_of_string (P := Try.prog) w 9 25 5 s Try.underlying9 Try.underlying25 Try.underlying5
  have hge := grownCap_ge w s.size 0 5
  have hsz : (bytesRow s (grownCap w s.size 0 5)).size = grownCap w s.size 0 5 := by
    have h0 : s.data.size = s.size := rfl
    unfold bytesRow
    rw [Array.size_append, Array.size_map, Array.size_replicate, h0]
    omega
  refine ⟨_, _, hr, ⟨w.heap.size, _, _, _, ?_, Nat.le_refl _, heap_alloc_new w.drew _, ?_, grownCap_le_maxLen w s.size 0 5 (by unfold maxLen; omega), ?_, ?_, .inr ?_⟩, ?_⟩
  · rw [List.length_map]
    rfl
  · rw [List.length_map]
    exact hge
  · exact hsz
  · have hl : (List.map (fun b : UInt8 => Value.int IntKind.u8 (b.toNat : Int)) s.data.toList).length = s.size := by rw [List.length_map]; rfl
    unfold bytesRow
    rw [Array.toList_append, Array.toList_map]
    exact List.take_left
  · exact hsz
  · exact ((Touch.refl _ _).drewN 1).alloc _
end Go.Proofs.Ythengfclijclmaa

/- Tokens to be read; bytes up to a place; conditions: those told. -/
namespace Go.Proofs.Ythengfclijclmaa
open Go.RowKit
open Go.Lib

theorem flatT_at (l : List T3) (i : Nat) (h : i < l.length) : (flatT l)[i * 3]? = some (.int .u8 (l[i]).1) ∧ (flatT l)[i * 3 + 1]? = some (.int .i64 (l[i]).2.1) ∧ (flatT l)[i * 3 + 2]? = some (.int .i64 (l[i]).2.2) := by
  induction l generalizing i with
  | nil => simp at h
  | cons x l ih =>
    have e : flatT (x :: l) = [.int .u8 x.1, .int .i64 x.2.1, .int .i64 x.2.2] ++ flatT l := by unfold flatT; rw [List.flatMap_cons]
    rw [e]
    match i, h with
    | 0, _ => exact ⟨rfl, rfl, rfl⟩
    | i + 1, h =>
      have hi : i < l.length := by simpa using h
      obtain ⟨h0, h1, h2⟩ := ih i hi
      refine ⟨?_, ?_, ?_⟩
      · rw [List.getElem?_append_right (by simp; omega)]; simpa [show (i + 1) * 3 - 3 = i * 3 by omega] using h0
      · rw [List.getElem?_append_right (by simp; omega)]; simpa [show (i + 1) * 3 + 1 - 3 = i * 3 + 1 by omega] using h1
      · rw [List.getElem?_append_right (by simp; omega)]; simpa [show (i + 1) * 3 + 2 - 3 = i * 3 + 2 by omega] using h2
/-- Tokens in memory, to be read. -/
def Tls (w : World) (a : Option Addr) (l : List T3) : Prop := l = [] ∨ ∃ b, a = some ⟨b, 0, none⟩ ∧ b < w.heap.size ∧ ∀ i (h : i < l.length), w.cell? ⟨b, i * 3, none⟩ = some (.int .u8 (l[i]).1) ∧ w.cell? ⟨b, i * 3 + 1, none⟩ = some (.int .i64 (l[i]).2.1) ∧ w.cell? ⟨b, i * 3 + 2, none⟩ = some (.int .i64 (l[i]).2.2)
theorem own_tls {w : World} {e : TypeId} {v : Value} {l : List T3} (h : w.ownsRow 0 e 3 v l.length (flatT l)) : ∃ a c, v = .slice a l.length c ∧ Tls w a l := by
  rcases h.2 with ⟨h1, h2⟩ | ⟨g, cap, cur, hv, hg, hh, hle, _⟩
  · exact ⟨none, 0, by rw [h1, h2], .inl (List.eq_nil_of_length_eq_zero h2)⟩
  · refine ⟨some ⟨g, 0, none⟩, cap, hv, .inr ⟨g, rfl, lt_of_block hh, fun i hi => ?_⟩⟩
    obtain ⟨h0, h1, h2⟩ := flatT_at l i hi
    have c := fun j u hj => h.cells (g := g) (by rw [hv]; rfl) j u hj
    have c0 := c _ _ h0
    have c1 := c _ _ h1
    have c2 := c _ _ h2
    rw [add_zero] at c0 c1 c2
    exact ⟨c0, c1, c2⟩
theorem Tls.keep {w w' : World} {a : Option Addr} {l : List T3} (h : Tls w a l) (t : Touch (fun _ => False) w w') : Tls w' a l := by
  rcases h with h | ⟨b, ha, hb, hc⟩
  · exact .inl h
  · refine .inr ⟨b, ha, Nat.lt_of_lt_of_le hb t.size, fun i hi => ?_⟩
    obtain ⟨h0, h1, h2⟩ := hc i hi
    exact ⟨(t.cell (p := ⟨b, i * 3, none⟩) hb id).trans h0, (t.cell (p := ⟨b, i * 3 + 1, none⟩) hb id).trans h1, (t.cell (p := ⟨b, i * 3 + 2, none⟩) hb id).trans h2⟩
theorem wpList_append_M {ops : Array Oper} {rest : List Oper} {o : Oper} {a : Act} {Q : Exit → Act → World → Prop} (hgd : o.guard = none) (sO xO : Operand)
    (ho : o.op = .call { callee := .builtin .append, args := #[sO, xO], argTypes := #[25, 25] }) {W0 w : World} (v : Value) (s : List Value) (hs : a.eval sO = v) (h : OwM W0 w v s)
    (ad : Addr) (c : Nat) (x : Value) (hx : a.eval xO = .slice (some ad) 1 c) (hx1 : x.oneCell' = true) (hnews : ∀ j u, [x][j]? = some u → w.cell? (ad.add j) = some u) (hlen : s.length + 1 ≤ 1048576) (h0 : W0.heap.size ≤ w.heap.size)
    (k : ∀ v' w', OwM W0 w' v' (s ++ [x]) → w.grownBy w' v.ownBlock → wpList Try.prog ops Q rest (a.put o.dst v') w') : wpList Try.prog ops Q (o :: rest) a w := by
  refine wpList_plain hgd fun K hK => ?_
  obtain ⟨v', w', hr, h2, h3⟩ := run_append_M h ad c x hx1 hnews hlen h0 o.type
  unfold Oper.wp execOp
  simp only [ho, resolve, invoke, builtin, Sem.run_bind, Sem.run_pure, Result.andThen_ok, List.map_toArray, List.map_cons, List.map_nil, hs, hx, hr]
  exact hK _ _ (k v' w' h2 h3)
/-- The bytes up to a place. -/
def dV (d : ByteArray) (p : Nat) : List Value := (List.range p).map fun i => .int .u8 ((Bt.byteN d i : Nat) : Int)
theorem dV_len (d : ByteArray) (p : Nat) : (dV d p).length = p := by simp [dV]
theorem dV_succ (d : ByteArray) (p : Nat) : dV d (p + 1) = dV d p ++ [.int .u8 ((Bt.byteN d p : Nat) : Int)] := by simp [dV, List.range_succ]
theorem dV_at (d : ByteArray) (p i : Nat) (h : i < p) : (dV d p)[i]? = some (.int .u8 ((Bt.byteN d i : Nat) : Int)) := by simp [dV, h]
theorem dV_conv (d : ByteArray) (f : Nat) (h : f ≤ d.size) : ((d.extract 0 f).data.toList.map fun b => Value.int .u8 (b.toNat : Int)) = dV d f := by
  have hl : (d.extract 0 f).data.size = f := by
    have : (d.extract 0 f).size = min f d.size - 0 := ByteArray.size_extract
    have h2 : (d.extract 0 f).data.size = (d.extract 0 f).size := rfl
    omega
  apply List.ext_getElem
  · simp [dV]
    simpa using hl
  · intro i h1 h2
    simp only [List.length_map, dV_len] at h1 h2
    simp only [List.getElem_map, dV, List.getElem_range]
    rw [byteN_at d i (by omega)]
    simp
    rfl
end Go.Proofs.Ythengfclijclmaa
