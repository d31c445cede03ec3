/- Texts of this proof, one behind the other: what each says stands ahead of it. -/
import Derived.Test.YtjpmjcadnnglnaaDoorM8
import Derived.Test.YtjpmjcadnnglnaaDoorM4
import Derived.Laws.BytesArg
import Derived.Lib.AppendStr
/- Encode by Latin1 of numbers that are bytes; conditions: those told. -/
namespace Go.Proofs.YtjpmjcadnnglnaaDoor
open Go.RowKit
open Go.Lib

theorem crun_append_string_at {P : Program} (w : World) (t u ty e : TypeId) (i : TypeInfo) (ht : P.underlying t = some (.slice e)) (hu : P.underlying u = some .string) (hi : P.info? e = some i) (hz : i.zero = some (.int .u8 0))
    (hsize : i.size = 1) (hby : i.bytes = 1) (v : Value) (n : Nat) (xs : List Value) (hown : w.ownsRow 0 e 1 v n xs) (s : ByteArray) (h63 : n + s.size ≤ maxLen) (hbytes : n + s.size ≤ 140737488355328) :
    ∃ v' w', (Builtin.append_ #[t, u] ty #[v, .string s]).run P w = .ok v' w' ∧ w'.ownsRow 0 e 1 v' (n + s.size) (xs ++ strCells s) ∧ w.grownBy w' v.ownBlock ∧
      (v'.ownBlock = v.ownBlock ∨ ∃ g, v'.ownBlock = some g ∧ w.heap.size ≤ g) := by
  rcases hown.2 with ⟨rfl, rfl⟩ | ⟨g, cap, cur, rfl, _, hg, hnc, hcm, hcs, htake⟩
  · have hx : xs = [] := List.eq_nil_of_length_eq_zero (by simpa using hown.1)
    subst hx
    obtain ⟨v', w', hr, h2, h3, h4⟩ := run_append_own_string (P := P) w w.heap.size t u ty e i ht hu hi hz hsize hby _ _ _ (World.ownsRow_nil w w.heap.size e 1) s h63 hbytes (Nat.le_refl _)
    refine ⟨v', w', hr, ⟨h2.1, ?_⟩, h3, ?_⟩
    · rcases h2.2 with h | ⟨g, cap, cur, hv, _, hh, r⟩
      · exact .inl h
      · exact .inr ⟨g, cap, cur, hv, Nat.zero_le _, hh, r⟩
    · rcases h2.2 with ⟨rfl, _⟩ | ⟨g, cap, cur, rfl, hg, _⟩
      · exact .inl rfl
      · exact .inr ⟨g, rfl, hg⟩
  · obtain ⟨v', w', hr, h2, h3, h4⟩ := run_append_own_string (P := P) w 0 t u ty e i ht hu hi hz hsize hby _ _ _ hown s h63 hbytes (Nat.zero_le _)
    refine ⟨v', w', hr, h2, h3, ?_⟩
    by_cases hroom : n + s.size ≤ cap
    · have hcs' : cur.size = cap := by simpa using hcs
      have hr2 := run_append_room_string (P := P) w t u ty e i ht hu hi hsize g n cap cur hg s hroom (by omega)
      rw [hr] at hr2
      simp only [Result.ok.injEq] at hr2
      rw [hr2.1]
      exact .inl rfl
    · have holds : ∀ j u, xs[j]? = some u → w.cell? ((⟨g, 0, none⟩ : Addr).add j) = some u := hown.cells (g := g) rfl
      have hr2 := run_append_grow_string (P := P) w t u ty e i (.int .u8 0) ht hu hi hz ⟨g, 0, none⟩ n cap xs (by rw [hsize]; exact hown.1) holds s (by omega) (by unfold maxLen at h63; omega) (by rw [hby]; exact growslice_fits (by omega) (by omega))
      rw [hr] at hr2
      simp only [Result.ok.injEq] at hr2
      rw [hr2.1]
      exact .inr ⟨_, rfl, Nat.le_refl _⟩

theorem step_append_string {P : Program} (w : World) {ops : Array Oper} {o : Oper} {a : Act} {K : Act → World → Prop} {Q : Exit → Act → World → Prop} {E : Prop} (hgd : o.guard = none) (sl x : Operand) (t u : TypeId)
    (ho : o.op = .call { callee := .builtin .append, args := #[sl, x], argTypes := #[t, u] })
    (e : TypeId) (i : TypeInfo) (ht : P.underlying t = some (.slice e)) (hu : P.underlying u = some .string) (hi : P.info? e = some i) (hz : i.zero = some (.int .u8 0)) (hsize : i.size = 1) (hby : i.bytes = 1)
    (v : Value) (n : Nat) (xs : List Value) (hs : a.eval sl = v) (hown : w.ownsRow 0 e 1 v n xs) (s : ByteArray) (hx : a.eval x = .string s) (h63 : n + s.size ≤ maxLen) (hbytes : n + s.size ≤ 140737488355328)
    (h : ∀ v' w', w'.ownsRow 0 e 1 v' (n + s.size) (xs ++ strCells s) → w.grownBy w' v.ownBlock → (v'.ownBlock = v.ownBlock ∨ ∃ g, v'.ownBlock = some g ∧ w.heap.size ≤ g) → K (a.put o.dst v') w') :
    if Region.wanted o (yielded ops a.tmps) = true then Oper.wp P o a w K Q else E := by
  have hw : Region.wanted o (yielded ops a.tmps) = true := by simp [Region.wanted, hgd]
  rw [if_pos hw]
  obtain ⟨v', w', hr, h2, h3, h4⟩ := crun_append_string_at (P := P) w t u o.type e i ht hu hi hz hsize hby v n xs hown s h63 hbytes
  unfold Oper.wp execOp
  simp only [ho, resolve, invoke, builtin, Sem.run_bind, Sem.run_pure, Result.andThen_ok, List.map_toArray, List.map_cons, List.map_nil, hs, hx, hr]
  exact h v' w' h2 h3 h4

def nums (s : ByteArray) : List Int := s.data.toList.map fun b => (b.toNat : Int)
theorem Ob.appS {P : Nat → Prop} {W0 wr w1 : World} {q : Nat} {v v' : Value} {o : List Int} {s : ByteArray} (h : Ob P W0 wr q v o) (hown : w1.ownsRow 0 5 1 v' (o.length + s.size) (encB o ++ strCells s)) (hg : wr.grownBy w1 v.ownBlock) (hat : v'.ownBlock = v.ownBlock ∨ ∃ g, v'.ownBlock = some g ∧ wr.heap.size ≤ g) : Ob P W0 (w1.setCell ⟨q, 0, none⟩ v') q v' (o ++ nums s) := by
  have hq := lt_of_block h.blk
  have key : w1.heap[q]? = wr.heap[q]? := hg.block q hq (fun e => h.ne e.symm)
  have ne' : v'.ownBlock ≠ some q := by
    rcases hat with e | ⟨g, e, hg⟩
    · rw [e]; exact h.ne
    · rw [e]
      intro z
      simp at z
      omega
  refine ⟨own_kept5 ?_ (fun g e => Below.heap_setCell _ _ _ _ (fun z => ne' (by rw [e, z]))), fun g e => ?_, block_set (key.trans h.blk) 0 v', (h.touch.grown hg (fun k e hk => ?_)).setCell (fun _ => h.at_) v', h.at_⟩
  · have e1 : (nums s).length = s.size := by unfold nums; rw [List.length_map, Array.length_toList]; rfl
    have e2 : encB (nums s) = strCells s := by unfold encB nums strCells; rw [List.map_map]; rfl
    rw [List.length_append, e1, encB, List.map_append]
    rw [← e2] at hown
    exact hown
  · rcases hat with z | ⟨g', z, hz⟩
    · exact h.new g (by rw [← z]; exact e)
    · rw [z] at e
      simp at e
      have := h.touch.size
      exact .inr (by omega)
  · rcases h.new k e with p | p
    · exact p
    · omega
theorem Ob.midS {P : Nat → Prop} {W0 wr w1 : World} {q : Nat} {v : Value} {o : List Int} (h : Ob P W0 wr q v o) (hg : wr.grownBy w1 v.ownBlock) : w1.cell? ⟨q, 0, none⟩ = some v ∧ ∀ i, w1.frozen? ⟨q, i, none⟩ = false := by
  have hq := lt_of_block h.blk
  have := (hg.block q hq (fun e => h.ne e.symm)).trans h.blk
  simp [World.cell?, World.frozen?, this]
theorem conv_own {w : World} {v : Value} {o : List Int} (h : w.ownsRow 0 5 1 v o.length (encB o)) : (convert 97 9 v).run Tryd.prog w = .ok (.string (strOfNums o)) w := by
  rcases h.2 with ⟨rfl, h0⟩ | ⟨g, cap, cur, rfl, hg, hh, rest⟩
  · obtain rfl := List.eq_nil_of_length_eq_zero h0
    rw [run_convert_bytes_string w 97 9 5 _ _ _ Tryd.underlying97 Tryd.underlying5 Tryd.underlying9]
    simp [Conv.bytesToString, strOfNums]
    rfl
  · refine run_convert_bytes_arg w 97 5 Tryd.underlying97 Tryd.underlying5 g 0 o.length cap o rfl (fun i hi => ?_) 9 Tryd.underlying9
    have := h.cells (g := g) rfl i (.int .u8 (o.getD i 0)) (by simp [encB, hi])
    rw [add_g] at this
    rwa [Nat.zero_add]
theorem Ob.start (w : World) : Ob (fun k => k = w.heap.size) (w.alloc (.cells #[.slice none 0 0] 97)) (w.alloc (.cells #[.slice none 0 0] 97)) w.heap.size (.slice none 0 0) [] :=
  ⟨by simpa [encB] using World.ownsRow_nil _ _ _ _, fun g hg => by simp [Value.ownBlock] at hg, block_new w _ 97, Touch.refl _ _, rfl⟩

end Go.Proofs.YtjpmjcadnnglnaaDoor

/- The putters of two bytes; conditions: those told. -/
namespace Go.Proofs.YtjpmjcadnnglnaaDoor
open Go.RowKit
attribute [local go_sem] run_store_func

theorem and_low (r : Int) (k : Nat) (h0 : 0 ≤ r) (h1 : r < 4611686018427387904) (hk : k ≤ 20) : bits .and .i64 r ((2 ^ k - 1 : Nat) : Int) = r % ((2 ^ k : Nat) : Int) := by
  obtain ⟨n, rfl⟩ := Int.eq_ofNat_of_zero_le h0
  have hp : 2 ^ k ≤ 2 ^ 20 := Nat.pow_le_pow_right (by decide) hk
  rw [(bits_nat .i64 62 (by decide) wraps_i64 n (2 ^ k - 1) (by omega) (by omega)).1, Nat.and_two_pow_sub_one_eq_mod]
  rfl
theorem and255 (r : Int) (h0 : 0 ≤ r) (h1 : r < 4611686018427387904) : bits .and .i64 r 255 = r % 256 := and_low r 8 h0 h1 (by decide)
theorem and1023 (r : Int) (h0 : 0 ≤ r) (h1 : r < 4611686018427387904) : bits .and .i64 r 1023 = r % 1024 := and_low r 10 h0 h1 (by decide)

/-- The bytes of a scalar by a coding of two bytes a unit. -/
def enU (f : Nat) (r : Int) : List Int := if f = 50 then [r % 256, r / 256] else [r / 256, r % 256]
def en16 (f : Nat) (r : Int) : List Int := if r < 65536 then enU f r else enU f (55296 + (r - 65536) / 1024) ++ enU f (56320 + (r - 65536) % 1024)
/-- A later world of the same. -/
theorem Ob.chain {P : Nat → Prop} {W0 wr : World} {q : Nat} {v : Value} {o : List Int} {lo : Nat} {w : World} (h : Ob P W0 wr q v o) (hP : ∀ k, P k → k < lo ∨ w.heap.size ≤ k) (hk : ∀ k, lo ≤ k → k < w.heap.size → W0.heap[k]? = w.heap[k]?) (hs : w.heap.size ≤ W0.heap.size) :
    (∀ k, lo ≤ k → k < w.heap.size → wr.heap[k]? = w.heap[k]?) ∧ w.heap.size ≤ wr.heap.size ∧ (∀ g, v.ownBlock = some g → g < lo ∨ w.heap.size ≤ g) := by
  refine ⟨fun k h1 h2 => ?_, Nat.le_trans hs h.touch.size, fun g hg => ?_⟩
  · rw [h.touch.block k (by omega) (fun e => by rcases hP k e with p | p <;> omega)]
    exact hk k h1 h2
  · rcases h.new g hg with p | p
    · exact hP g p
    · exact .inr (by omega)

end Go.Proofs.YtjpmjcadnnglnaaDoor

/- A further byte of UTF-8; conditions: those told. -/
namespace Go.Proofs.YtjpmjcadnnglnaaDoor
open Go.RowKit

theorem and63 (r : Int) (h0 : 0 ≤ r) (h1 : r < 4611686018427387904) : bits .and .i64 r 63 = r % 64 := and_low r 6 h0 h1 (by decide)
theorem or_head (n : Int) (hd k : Nat) (h0 : 0 ≤ n) (h1 : n < ((2 ^ k : Nat) : Int)) (hk : k ≤ 8) (hd1 : hd ≤ 255) : bits .or .i64 ((2 ^ k * hd : Nat) : Int) n = ((2 ^ k * hd : Nat) : Int) + n := by
  obtain ⟨m, rfl⟩ := Int.eq_ofNat_of_zero_le h0
  have hp : 2 ^ k ≤ 2 ^ 8 := Nat.pow_le_pow_right (by decide) hk
  have hm : m < 2 ^ k := by omega
  have h3 : 2 ^ k * hd ≤ 2 ^ 8 * 255 := Nat.mul_le_mul hp hd1
  rw [(bits_nat .i64 62 (by decide) wraps_i64 (2 ^ k * hd) m (by omega) (by omega)).2, ← Nat.two_pow_add_eq_or_of_lt hm]
  rfl
theorem or128 (n : Int) (h0 : 0 ≤ n) (h1 : n < 64) : bits .or .i64 128 n = 128 + n := or_head n 2 6 h0 h1 (by decide) (by decide)
theorem or192 (n : Int) (h0 : 0 ≤ n) (h1 : n < 64) : bits .or .i64 192 n = 192 + n := or_head n 3 6 h0 h1 (by decide) (by decide)
theorem or224 (n : Int) (h0 : 0 ≤ n) (h1 : n < 32) : bits .or .i64 224 n = 224 + n := or_head n 7 5 h0 h1 (by decide) (by decide)
theorem or240 (n : Int) (h0 : 0 ≤ n) (h1 : n < 16) : bits .or .i64 240 n = 240 + n := or_head n 15 4 h0 h1 (by decide) (by decide)

end Go.Proofs.YtjpmjcadnnglnaaDoor
