/- Lists of texts in memory; no condition. -/
import Derived.Test.YtmeekjfnmdbnpaaDoorBa
import Derived.Test.YtmeekjfnmdbnpaaDoorPl
import Derived.Laws.OwnMore
namespace Go.Proofs.YtmeekjfnmdbnpaaDoor
open Go.RowKit

def sv (l : List UInt8) : Value := .string ⟨l.toArray⟩
theorem info9 : (Tryd.prog.info? 9).map (fun i => (i.zero, i.size, i.bytes)) = some (some (.string ⟨#[]⟩), 1, 16) := by kernel_rfl
theorem add_g (g j : Nat) : (⟨g, 0, none⟩ : Addr).add j = ⟨g, j, none⟩ := by
  unfold Addr.add
  split
  · rename_i h; rw [h]
  · rw [Nat.zero_add]
/-- A list of texts in memory. -/
def Nl (w : World) (v : Value) (ns : List Bs) : Prop :=
  ∃ a c, v = .slice a ns.length c ∧ (ns = [] ∨ ∃ b o, a = some ⟨b, o, none⟩ ∧ b < w.heap.size ∧ ∀ j (h : j < ns.length), w.cell? ⟨b, o + j, none⟩ = some (sv ns[j]))
theorem Nl.kept {w w' : World} {S : Nat → Prop} {v : Value} {ns : List Bs} (h : Nl w v ns) (t : Touch S w w') (hs : ∀ b, v.ownBlock = some b → b < w.heap.size → ¬ S b) : Nl w' v ns := by
  obtain ⟨a, c, rfl, h⟩ := h
  refine ⟨a, c, rfl, ?_⟩
  rcases h with h | ⟨b, o, rfl, hb, hc⟩
  · exact .inl h
  · refine .inr ⟨b, o, rfl, Nat.lt_of_lt_of_le hb t.size, fun j hj => ?_⟩
    rw [t.cell (p := ⟨b, o + j, none⟩) hb (hs b (by simp [Value.ownBlock]) hb)]
    exact hc j hj
theorem Nl.new {w w' : World} {v : Value} {ns : List Bs} (h : Nl w v ns) (t : Touch (fun _ => False) w w') : Nl w' v ns := h.kept t (fun _ _ _ e => e)
theorem row_new (w : World) (l : List Value) (t : TypeId) : ∀ (j : Nat) (u : Value), l[j]? = some u → (w.alloc (.cells l.toArray t)).cell? ((⟨w.heap.size, 0, none⟩ : Addr).add j) = some u := by
  intro j u hj
  have hb : (w.alloc (.cells l.toArray t)).heap[w.heap.size]? = some (.cells l.toArray t (0, 0)) := by
    show (w.heap.push _)[_]? = _
    simp
  rw [add_g]
  unfold World.cell?
  rw [hb]
  simpa using hj
/-- The call's own list of texts. -/
structure OwS (W0 wr : World) (v : Value) (ts : List Bs) : Prop where
  own : wr.ownsRow 0 9 1 v ts.length (ts.map sv)
  new : ∀ g, v.ownBlock = some g → W0.heap.size ≤ g
  touch : Touch (fun _ => False) W0 wr
theorem OwS.nil (w : World) : OwS w w (.slice none 0 0) [] := ⟨by simpa using World.ownsRow_nil _ _ _ _, by intro g h; simp [Value.ownBlock] at h, Touch.refl _ _⟩
theorem OwS.still {W0 wr w' : World} {v : Value} {s : List Bs} (h : OwS W0 wr v s) (tc : Touch (fun _ => False) wr w') : OwS W0 w' v s := by
  refine ⟨⟨h.own.1, ?_⟩, h.new, h.touch.trans tc (fun _ _ e => e)⟩
  rcases h.own.2 with h0 | ⟨g, cap, cur, hv, hg, hh, rest⟩
  · exact .inl h0
  · exact .inr ⟨g, cap, cur, hv, hg, (tc.block g (lt_of_block hh) id).trans hh, rest⟩
theorem OwS.more {W0 wr w1 : World} {v v' : Value} {s xs : List Bs} {o : Obj} (h : OwS W0 wr v s) (hown : w1.ownsRow 0 9 1 v' (s.length + xs.length) (s.map sv ++ xs.map sv)) (hg : (wr.alloc o).grownBy w1 v.ownBlock) (hat : v'.ownBlock = v.ownBlock ∨ v'.ownBlock = some (wr.heap.size + 1)) : OwS W0 w1 v' (s ++ xs) := by
  refine ⟨?_, fun g hg' => ?_, (h.touch.alloc o).grown hg (fun k e hk => by have := h.new k e; omega)⟩
  · rw [List.length_append, List.map_append]
    exact hown
  · rcases hat with e | e
    · exact h.new g (by rw [← e]; exact hg')
    · rw [e] at hg'
      simp at hg'
      have := h.touch.size
      omega
theorem own_nl {w : World} {v : Value} {ts : List Bs} (h : w.ownsRow 0 9 1 v ts.length (ts.map sv)) : Nl w v ts := by
  rcases h.2 with ⟨rfl, h0⟩ | ⟨g, cap, cur, rfl, hg, hh, rest⟩
  · exact ⟨none, 0, by rw [h0], .inl (List.eq_nil_of_length_eq_zero h0)⟩
  · refine ⟨_, cap, rfl, .inr ⟨g, 0, rfl, lt_of_block hh, fun i hi => ?_⟩⟩
    have h1 := h.cells (g := g) rfl i (sv ts[i]) (by rw [List.getElem?_map, List.getElem?_eq_getElem hi]; rfl)
    rw [add_g] at h1
    rw [Nat.zero_add]
    exact h1
theorem OwS.nl {W0 wr : World} {v : Value} {s : List Bs} (h : OwS W0 wr v s) : Nl wr v s := own_nl h.own
theorem toList_data (s : ByteArray) : s.toList = s.data.toList := by
  have go : ∀ (n i : Nat) (r : List UInt8), s.size - i = n → ByteArray.toList.loop s i r = r.reverse ++ s.data.toList.drop i := by
    intro n
    induction n with
    | zero =>
      intro i r h
      unfold ByteArray.toList.loop
      rw [if_neg (by omega), List.drop_eq_nil_of_le (by rw [Array.length_toList]; show s.size ≤ i; omega), List.append_nil]
    | succ n ih =>
      intro i r h
      have hi : i < s.size := by omega
      have hi' : i < s.data.toList.length := by rw [Array.length_toList]; exact hi
      unfold ByteArray.toList.loop
      rw [if_pos hi, ih (i + 1) _ (by omega), List.drop_eq_getElem_cons hi', List.reverse_cons, List.append_assoc]
      congr 1
      show s.get! i :: _ = _
      congr 1
      show s.data[i]! = _
      rw [getElem!_pos s.data i hi]
      rfl
  unfold ByteArray.toList
  rw [go _ 0 [] rfl]
  rfl
theorem ext_list (s : ByteArray) (a b : Nat) : (s.extract a b).data.toList = (s.data.toList.drop a).take (b - a) := by
  rw [ByteArray.data_extract, Array.toList_extract, List.extract_eq_take_drop]
theorem len_size (s : ByteArray) : s.data.toList.length = s.size := by rw [Array.length_toList]; rfl
theorem sv_data (s : ByteArray) : sv s.data.toList = .string s := rfl
theorem list_ne {s : ByteArray} (h : 0 < s.size) : s.toList.isEmpty = false := by
  rw [toList_data]
  cases hl : s.data.toList with
  | nil => have := len_size s; rw [hl] at this; simp at this; omega
  | cons a b => rfl
end Go.Proofs.YtmeekjfnmdbnpaaDoor
