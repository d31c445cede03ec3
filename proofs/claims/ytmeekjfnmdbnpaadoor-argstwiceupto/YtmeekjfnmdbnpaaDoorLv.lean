/- What the walk of ArgsTwice leans on: pairs told the other way round, append in a statement that draws; no condition. -/
import Derived.Test.YtmeekjfnmdbnpaaDoorRv
import Derived.Test.YtmeekjfnmdbnpaaDoorLq
namespace Go.Proofs.YtmeekjfnmdbnpaaDoor
open Go.RowKit
open Go.Lib

theorem i64_and_mask (n : Int) (m : Nat) (hm : m ≤ 62) : bits .and .i64 n (2 ^ m - 1) = n % 2 ^ m := by
  have hp : (2 ^ m : Nat) ≤ 2 ^ 62 := Nat.pow_le_pow_right (by decide) hm
  have hp0 : 0 < (2 ^ m : Nat) := Nat.pow_pos (by decide)
  have hc : (2 : Int) ^ m = ((2 ^ m : Nat) : Int) := by simp
  have hd : (2 ^ m : Nat) ∣ 2 ^ 64 := Nat.pow_dvd_pow 2 (by omega)
  rw [hc]
  have h1 : (BitVec.ofInt 64 (((2 ^ m : Nat) : Int) - 1)).toNat = 2 ^ m - 1 := by
    rw [BitVec.toNat_ofInt]
    omega
  have key : (BitVec.ofInt 64 n &&& BitVec.ofInt 64 (((2 ^ m : Nat) : Int) - 1)).toNat = (n % ((2 ^ 64 : Nat) : Int)).toNat % 2 ^ m := by
    rw [BitVec.toNat_and, BitVec.toNat_ofInt, h1, Nat.and_two_pow_sub_one_eq_mod]
  show IntKind.i64.wrap ((BitVec.ofInt 64 n &&& BitVec.ofInt 64 (((2 ^ m : Nat) : Int) - 1)).toNat : Nat) = _
  have hlt : (n % ((2 ^ 64 : Nat) : Int)).toNat % 2 ^ m < 2 ^ m := Nat.mod_lt _ hp0
  have e1 : (((n % ((2 ^ 64 : Nat) : Int)).toNat % 2 ^ m : Nat) : Int) = n % ((2 ^ m : Nat) : Int) := by
    rw [Int.natCast_emod, Int.toNat_of_nonneg (Int.emod_nonneg _ (by decide)), Int.emod_emod_of_dvd _ (by exact_mod_cast hd)]
  rw [key, e1, IntKind.wrap_i64]
  have h2 := Int.emod_nonneg n (b := ((2 ^ m : Nat) : Int)) (by omega)
  have h3 := Int.emod_lt_of_pos n (b := ((2 ^ m : Nat) : Int)) (by omega)
  omega
theorem and1023 (n : Int) : bits .and .i64 n 1023 = n % 1024 := i64_and_mask n 10 (by decide)
/-- Append to a list of the call's own, in a statement that draws its order. -/
theorem AllReadyH.append {P : Program} {ops : Array Oper} {Q : Exit → Act → World → Prop} {md : Region.Mode} {S : World → Prop} {fuel : Nat} {listed : Array Bool} {a : Act} {w : World} {k : Nat} {rs : List Nat} {o : Oper} (d : Option Tmp) (hok : ops[k]? = some o) (hw : Region.wanted o (yielded ops a.tmps) = true) (s x : Operand) (t : TypeId)
    (ho : o.op = .call { callee := .builtin .append, args := #[s, x], argTypes := #[t, t] })
    (base : Nat) (e : TypeId) (i : TypeInfo) (z : Value) (size bytes : Nat) (ht : P.underlying t = some (.slice e)) (hi : P.info? e = some i) (hz : i.zero = some z)
    (hsize : i.size = size) (hby : i.bytes = bytes) (hzs : z.cells.size = size) (hsz : 0 < size)
    (v : Value) (n : Nat) (xs : List Value) (hs : a.eval s = v) (hown : w.ownsRow base e size v n xs)
    (ad : Addr) (m c : Nat) (news : List Value) (hx : a.eval x = .slice (some ad) m c) (hl : news.length = m * size) (hnews : ∀ j u, news[j]? = some u → w.cell? (ad.add j) = some u) (h1 : ∀ u ∈ news, u.oneCell' = true)
    (h63 : n + m ≤ maxLen) (hbytes : (n + m) * bytes ≤ 140737488355328) (hbase : base ≤ w.heap.size) (hd : o.dst = d)
    (h : ∀ v' w', w'.ownsRow base e size v' (n + m) (xs ++ news) → w.grownBy w' v.ownBlock → (v' = .slice none 0 0 ↔ v = .slice none 0 0 ∧ m = 0) → (v'.ownBlock = v.ownBlock ∨ v'.ownBlock = some w.heap.size) → S w' ∧ wpAnyH P md ops Q S fuel (listed.setIfInBounds k true) (a.put d v') w')
    (hrs : AllReadyH P md ops Q S fuel listed a w rs) : AllReadyH P md ops Q S fuel listed a w (k :: rs) := by
  obtain ⟨v', w', hr, h2, h3, h4, h5⟩ := run_append_own_at (P := P) w base t o.type e i z size bytes ht hi hz hsize hby hzs hsz v n xs hown ad m c news hl hnews h1 h63 hbytes hbase
  obtain ⟨hS, hW⟩ := h v' w' h2 h3 h4 h5
  subst hd
  refine AllReadyH.run o hok hw v' w' ?_ hS hW hrs
  unfold execOp
  simp only [ho, resolve, invoke, builtin, Sem.run_bind, Sem.run_pure, Result.andThen_ok, List.map_toArray, List.map_cons, List.map_nil, hs, hx, hr]
/-- The same with the slot written out, so that no operation is carried along in the frame. -/
theorem takeD {P : Program} {ops : Array Oper} {Q : Exit → Act → World → Prop} {md : Region.Mode} {S : World → Prop} {i : Nat} {oi : Oper} {v : Value} {fuel : Nat} {listed : Array Bool} {a : Act} {w : World} (d : Option Tmp) (hi : ops[i]? = some oi)
    (hs : Region.noSelect ops = true) (hf : Region.free md ops listed i = true) (hr : (Region.ready md ops listed).contains i = true)
    (hQ : ∀ c a w, Q (.panic c) (a.put oi.dst v) w → Q (.panic c) a w) (hy : YieldsIf P ops S oi v a) (hS : S w) (hd : oi.dst = d)
    (h : wpAnyH P md ops Q S fuel (listed.setIfInBounds i true) (a.put d v) w) : wpAnyH P md ops Q S (fuel + 1) listed a w :=
  wpAnyH_take hi hs hf hr hQ hy hS (hd ▸ h)
theorem AllReadyH.callD {P : Program} {ops : Array Oper} {Q : Exit → Act → World → Prop} {md : Region.Mode} {S : World → Prop} {fuel : Nat} {listed : Array Bool} {a : Act} {w : World} {i : Nat} {rs : List Nat} {o : Oper} (d : Option Tmp) (ho : ops[i]? = some o) (hw : Region.wanted o (yielded ops a.tmps) = true) (f : FuncId) (opnds : Array Operand) (ats : Array TypeId)
    (hop : o.op = .call { callee := .value (.func f), args := opnds, argTypes := ats }) (vs : Array Value) (hvl : opnds.toList.map a.eval = vs.toList) (hen : ∀ args w, (callFunc f args).run P w = .ok (.enter f args) w)
    (R : Value → World → Prop) (hc : Calls P f vs w (fun e w' => ∃ v, e = .returned v ∧ R v w')) (hd : o.dst = d) (h : ∀ v w', R v w' → S w' ∧ wpAnyH P md ops Q S fuel (listed.setIfInBounds i true) (a.put d v) w')
    (hs : AllReadyH P md ops Q S fuel listed a w rs) : AllReadyH P md ops Q S fuel listed a w (i :: rs) :=
  AllReadyH.call o ho hw f opnds ats hop vs hvl hen R hc (hd ▸ h) hs
theorem AllReadyH.runD {P : Program} {ops : Array Oper} {Q : Exit → Act → World → Prop} {md : Region.Mode} {S : World → Prop} {fuel : Nat} {listed : Array Bool} {a : Act} {w : World} {i : Nat} {rs : List Nat} {o : Oper} (d : Option Tmp) (ho : ops[i]? = some o) (hw : Region.wanted o (yielded ops a.tmps) = true) (v : Value) (w' : World)
    (hr : (execOp a.eval o).run P w = .ok (.value v) w') (hS : S w') (hd : o.dst = d) (h : wpAnyH P md ops Q S fuel (listed.setIfInBounds i true) (a.put d v) w')
    (hs : AllReadyH P md ops Q S fuel listed a w rs) : AllReadyH P md ops Q S fuel listed a w (i :: rs) :=
  AllReadyH.run o ho hw v w' hr hS (hd ▸ h) hs
theorem reg21_of {Q : Exit → Act → World → Prop} {S : World → Prop} (ops : Array Oper) (hops : ops = R21) (L : Array Bool) (hL : L = #[true, true, true, true, true, true, true, true, true, true, true, true, false, false, false, false, false, false, false, false, false, false, false, false, false]) (a0 : Act) (w : World) (X XB YB PB : ByteArray) (Nn : Int) (hz : a0.tmps.size = 177) (e122 : a0.eval (.tmp 122) = .string X) (e127 : a0.eval (.tmp 127) = .string XB) (e133 : a0.eval (.tmp 133) = .string YB)
    (hXP : X.size + PB.size ≤ 9223372036854775807) (hS : ∀ W, Touch (fun _ => False) w W → S W) (hQp : ∀ c a (d : Tmp) v w, Q (.panic c) (a.put (some d) v) w → Q (.panic c) a w)
    (KP : ∀ W q, Touch (fun _ => False) w W → W.heap[q]? = some (.cells #[.string XB, .string YB] 9 (0, 0)) → Calls Tryd.prog 9 #[.slice (some ⟨q, 0, none⟩) 2 2] W fun e w' => e = .returned (.string PB) ∧ Touch (fun _ => False) W w')
    (KX : ∀ W, Touch (fun _ => False) w W → Calls Tryd.prog 13 #[.string (X ++ PB)] W fun e w' => e = .returned (.tuple #[.agg z17, .string ⟨#[]⟩, .agg #[.int .i64 29, .int .i64 Nn]]) ∧ Touch (fun _ => False) W w')
    (hQ : ∀ q q16 q18 W, Touch (fun _ => False) w W → W.heap[q18]? = some (.cells #[.int .i64 29, .int .i64 Nn] 27 (0, 0)) → w.heap.size ≤ q18 → Q .normal (((((((((((a0.put (some 134) (.slice (some ⟨q, 0, none⟩) 2 2)).put (some 135) (.string PB)).put (some 136) (.string (X ++ PB))).put (some 137) (.tuple #[.agg z17, .string ⟨#[]⟩, .agg #[.int .i64 29, .int .i64 Nn]])).put (some 121) (.tuple #[.agg z17, .string ⟨#[]⟩, .agg #[.int .i64 29, .int .i64 Nn]])).put (some 138) (.agg z17)).put (some 139) (.string ⟨#[]⟩)).put (some 140) (.agg #[.int .i64 29, .int .i64 Nn])).put (some 16) (.pointer (some ⟨q16, 0, none⟩))).put (some 18) (.pointer (some ⟨q18, 0, none⟩))).put (some 17) (.string ⟨#[]⟩)) W) : wpAnyH Tryd.prog .any ops Q S 13 L a0 w := by
  subst hops
  subst hL
  exact reg21 a0 w X XB YB PB Nn hz e122 e127 e133 hXP hS hQp KP KX hQ
theorem ba_app (x y : ByteArray) : (x ++ y).data.toList = x.data.toList ++ y.data.toList := by simp
theorem shP_get (V : Nat → Value) : ∀ (ps : List Nat) (i : Nat) (h : i < ps.length), (shP V ps)[2 * i]? = some (wordB ps[i]) ∧ (shP V ps)[2 * i + 1]? = some (tellV (V ps[i]))
  | [], i, h => absurd h (Nat.not_lt_zero i)
  | k :: ps, 0, h => ⟨rfl, rfl⟩
  | k :: ps, i + 1, h => by
    have := shP_get V ps i (by simpa using h)
    have e1 : 2 * (i + 1) = 2 * i + 1 + 1 := by omega
    rw [e1]
    exact this
theorem shP_app (V : Nat → Value) (a b : List Nat) : shP V (a ++ b) = shP V a ++ shP V b := by simp [shP]
theorem shP_back (V : Nat → Value) (ps : List Nat) (j : Nat) (h : j < ps.length) : shP V (ps.drop j).reverse = shP V (ps.drop (j + 1)).reverse ++ [wordB ps[j], tellV (V ps[j])] := by
  rw [List.drop_eq_getElem_cons h, List.reverse_cons, shP_app]
  rfl
theorem pack_app : ∀ (a b : List Bs), (∀ t ∈ a, t.length ≤ 9999999) → packL (a ++ b) = packL a ++ packL b
  | [], b, _ => rfl
  | t :: a, b, h => by
    have ht := h t List.mem_cons_self
    rw [List.cons_append, packL, packL, if_neg (by omega), if_neg (by omega), pack_app a b (fun u hu => h u (List.mem_cons_of_mem _ hu)), List.append_assoc]
theorem back_mem (V : Nat → Value) (k : Nat) : k ∈ (shK V (List.range 18)).reverse ↔ k < 18 ∧ tellV (V k) ≠ [] := by rw [List.mem_reverse]; exact shK_mem V k
theorem nl_two {w : World} {q : Nat} {x y : ByteArray} (h : w.heap[q]? = some (.cells #[.string x, .string y] 9 (0, 0))) : Nl w (.slice (some ⟨q, 0, none⟩) 2 2) [x.data.toList, y.data.toList] := by
  refine ⟨some ⟨q, 0, none⟩, 2, rfl, .inr ⟨q, 0, rfl, lt_of_block h, fun j hj => ?_⟩⟩
  have hj2 : j < 2 := by simpa using hj
  match j, hj2 with
  | 0, _ => simp [World.cell?, h, sv]
  | 1, _ => simp [World.cell?, h, sv]
theorem rem_in (a n : Int) (hn : 0 < n) : 0 ≤ (a.tmod n + n).tmod n ∧ (a.tmod n + n).tmod n < n := by
  have h1 := Int.tmod_lt_of_pos a hn
  have h2 : -n < a.tmod n := by
    have := Int.lt_tmod_of_pos a hn
    omega
  have h3 : 0 ≤ a.tmod n + n := by omega
  exact ⟨Int.tmod_nonneg n h3, Int.tmod_lt_of_pos _ hn⟩
end Go.Proofs.YtmeekjfnmdbnpaaDoor
