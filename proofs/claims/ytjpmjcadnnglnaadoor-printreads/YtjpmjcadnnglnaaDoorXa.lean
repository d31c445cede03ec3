/- Show of any tree: what it tells, plain; the leaves; conditions: as told. -/
import Derived.Test.YtjpmjcadnnglnaaDoorQSa
import Derived.Test.YtjpmjcadnnglnaaDoorVp
namespace Go.Proofs.YtjpmjcadnnglnaaDoor
open Go.RowKit
open Go.Lib

/-- What stands for an item. -/
def pcB (kd : Int) (ks : List ByteArray) (ps : List Bs) (i : Nat) : Bs := (if i = 0 then [] else [44]) ++ ((if kd = 6 then quB (ks.getD i ⟨#[]⟩) ++ [58] else []) ++ ps.getD i [])
def jnB (kd : Int) (ks : List ByteArray) (ps : List Bs) (n : Nat) : Bs := (List.range n).flatMap (pcB kd ks ps)
theorem jnB_more (kd : Int) (ks : List ByteArray) (ps : List Bs) (k : Nat) : jnB kd ks ps (k + 1) = jnB kd ks ps k ++ pcB kd ks ps k := by
  unfold jnB
  rw [List.range_succ, List.flatMap_append]
  simp
theorem jnB_le (kd : Int) (ks : List ByteArray) (ps : List Bs) : ∀ d k, (jnB kd ks ps k).length ≤ (jnB kd ks ps (k + d)).length
  | 0, k => Nat.le_refl _
  | d + 1, k => by
    have := jnB_le kd ks ps d k
    rw [← Nat.add_assoc, jnB_more, List.length_append]
    omega
def nodB (k : Int) (t : ByteArray) (ks : List ByteArray) (ps : List Bs) : Bs :=
  if k = 1 then [102, 97, 108, 115, 101] else if k = 2 then [116, 114, 117, 101] else if k = 3 then t.data.toList else if k = 4 then quB t
  else if k = 5 then 91 :: (jnB 5 ks ps ps.length ++ [93]) else if k = 6 then 123 :: (jnB 6 ks ps ps.length ++ [125]) else [110, 117, 108, 108]
mutual
/-- The text of a tree. -/
def shB : JV → Bs
  | .node k t ks kids => nodB k t ks (shBs kids)
def shBs : List JV → List Bs
  | [] => []
  | x :: xs => shB x :: shBs xs
end
theorem shBs_map : ∀ xs : List JV, shBs xs = xs.map shB
  | [] => by rw [shBs]; rfl
  | x :: xs => by rw [shBs, shBs_map xs]; rfl
theorem shBs_len (xs : List JV) : (shBs xs).length = xs.length := by rw [shBs_map, List.length_map]
theorem shBs_at {xs : List JV} {i : Nat} {x : JV} (h : xs[i]? = some x) : (shBs xs).getD i [] = shB x := by
  rw [shBs_map, List.getD_eq_getElem?_getD, List.getElem?_map, h]
  rfl
theorem TV.grew {w : World} {B : Nat → Prop} {c : Cel} {x : JV} (h : TV w B c x) {w' : World} {v v' : Value} {l l' : Bs} (ho : OB w v l) (g : Grew w w' v v' l') : TV w' B c x := by
  induction h with
  | mk k t v2 v3 ks kids cs h2 b2 h3 b3 hl hk ih => exact .mk k t v2 v3 ks kids cs (row_other ho g h2 (by decide)) b2 (row_other ho g h3 (by decide)) b3 hl ih
theorem TV.new {w w' : World} {B : Nat → Prop} {c : Cel} {x : JV} (h : TV w B c x) (t : Touch (fun _ => False) w w') : TV w' B c x := h.kept t (fun _ _ e => e)
/-- All that Show of a list or an object reads. -/
structure SW (w : World) (q : Nat) (kd : Int) (v2 v3 : Value) (ks : List ByteArray) (cs : List Cel) (xs : List JV) (B : Nat → Prop) : Prop where
  obj : w.heap[q]? = some (.cells #[.int .i64 kd, .string ⟨#[]⟩, v2, v3] 36 (0, 0))
  keys : SL w v2 ks
  kids : CL w v3 cs
  trees : ∀ (i : Nat) (c : Cel) (x : JV), cs[i]? = some c → xs[i]? = some x → TV w B c x
  tabs : Tabs w
theorem SW.new {w w' : World} {q : Nat} {kd : Int} {v2 v3 : Value} {ks : List ByteArray} {cs : List Cel} {xs : List JV} {B : Nat → Prop} (h : SW w q kd v2 v3 ks cs xs B) (tc : Touch (fun _ => False) w w') : SW w' q kd v2 v3 ks cs xs B :=
  ⟨(tc.block q (lt_of_block h.obj) id).trans h.obj, rowKept h.keys tc (fun _ _ e => e), rowKept h.kids tc (fun _ _ e => e), fun i c x e1 e2 => (h.trees i c x e1 e2).new tc, h.tabs.new tc⟩
theorem SW.grew {w w' : World} {q : Nat} {kd : Int} {v2 v3 v v' : Value} {ks : List ByteArray} {cs : List Cel} {xs : List JV} {B : Nat → Prop} {l l' : Bs} (h : SW w q kd v2 v3 ks cs xs B) (ho : OB w v l) (g : Grew w w' v v' l') (h2 : ∀ k, v.ownBlock = some k → 2 ≤ k) : SW w' q kd v2 v3 ks cs xs B :=
  ⟨other_kept ho g h.obj (by decide), row_other ho g h.keys (by decide), row_other ho g h.kids (by decide), fun i c x e1 e2 => (h.trees i c x e1 e2).grew ho g, tabs_other g h.tabs h2⟩
end Go.Proofs.YtjpmjcadnnglnaaDoor
