/- Texts of this proof, one behind the other: what each says stands ahead of it. -/
import Derived.Test.YtabhlhgfacpohaaDoorM8
/- Bytes behind bytes of the call's own, and quoteOne: one scalar in quotes; conditions: the bytes are not too many. -/
namespace Go.Proofs.YtabhlhgfacpohaaDoor
open Go.RowKit
open Go.Lib

theorem step_append_own {P : Program} (w : World) {ops : Array Oper} {o : Oper} {a : Act} {K : Act → World → Prop} {Q : Exit → Act → World → Prop} {E : Prop} (hgd : o.guard = none) (s x : Operand) (t : TypeId)
    (ho : o.op = .call { callee := .builtin .append, args := #[s, x], argTypes := #[t, t] })
    (base : Nat) (e : TypeId) (i : TypeInfo) (z : Value) (size bytes : Nat) (ht : P.underlying t = some (.slice e)) (hi : P.info? e = some i) (hz : i.zero = some z)
    (hsize : i.size = size) (hby : i.bytes = bytes) (hzs : z.cells.size = size) (hsz : 0 < size)
    (v : Value) (n : Nat) (xs : List Value) (hs : a.eval s = v) (hown : w.ownsRow base e size v n xs)
    (ad : Addr) (m c : Nat) (news : List Value) (hx : a.eval x = .slice (some ad) m c) (hl : news.length = m * size) (hnews : ∀ j u, news[j]? = some u → w.cell? (ad.add j) = some u) (h1 : ∀ u ∈ news, u.oneCell' = true)
    (h63 : n + m ≤ maxLen) (hbytes : (n + m) * bytes ≤ 140737488355328) (hbase : base ≤ w.heap.size) (H : Nat) (hH : w.heap.size = H)
    (h : ∀ v' w', w'.ownsRow base e size v' (n + m) (xs ++ news) → w.grownBy w' v.ownBlock → (v'.ownBlock = v.ownBlock ∨ v'.ownBlock = some H) → K (a.put o.dst v') w') :
    if Region.wanted o (yielded ops a.tmps) = true then Oper.wp P o a w K Q else E := by
  have hw : Region.wanted o (yielded ops a.tmps) = true := by simp [Region.wanted, hgd]
  rw [if_pos hw]
  obtain ⟨v', w', hr, h2, h3, h4, h5⟩ := run_append_own_at (P := P) w base t o.type e i z size bytes ht hi hz hsize hby hzs hsz v n xs hown ad m c news hl hnews h1 h63 hbytes hbase
  unfold Oper.wp execOp
  simp only [ho, resolve, invoke, builtin, Sem.run_bind, Sem.run_pure, Result.andThen_ok, List.map_toArray, List.map_cons, List.map_nil, hs, hx, hr]
  exact h v' w' h2 h3 (by rw [← hH]; exact h5)


def bv (l : Bs) : List Value := l.map fun b => .int .u8 (b.toNat : Int)
theorem bv_append (a b : Bs) : bv (a ++ b) = bv a ++ bv b := by unfold bv; rw [List.map_append]
theorem bv_length (a : Bs) : (bv a).length = a.length := by unfold bv; rw [List.length_map]
/-- A list of bytes of the call's own. -/
def OB (w : World) (v : Value) (l : Bs) : Prop := w.ownsRow 0 5 1 v l.length (bv l)
theorem OB.nil (w : World) : OB w (.slice none 0 0) [] := World.ownsRow_nil _ _ _ _
theorem OB.kept {w w' : World} {v : Value} {s : Bs} {S : Nat → Prop} (h : OB w v s) (tc : Touch S w w') (hn : ∀ g, v.ownBlock = some g → ¬ S g) : OB w' v s := by
  refine ⟨h.1, ?_⟩
  rcases h.2 with h0 | ⟨g, cap, cur, hv, hg, hh, rest⟩
  · exact .inl h0
  · exact .inr ⟨g, cap, cur, hv, hg, (tc.block g (lt_of_block hh) (hn g (by rw [hv]; rfl))).trans hh, rest⟩
/-- What was put behind them. -/
structure Grew (w w' : World) (v v' : Value) (l' : Bs) : Prop where
  own : OB w' v' l'
  touch : Touch (fun k => v.ownBlock = some k) w w'
  pos : v'.ownBlock = v.ownBlock ∨ ∃ g, v'.ownBlock = some g ∧ w.heap.size ≤ g
theorem Grew.refl {w : World} {v : Value} {l : Bs} (h : OB w v l) : Grew w w v v l := ⟨h, Touch.refl _ _, .inl rfl⟩
theorem Grew.trans {w w1 w2 : World} {v v1 v2 : Value} {l1 l2 : Bs} (h : Grew w w1 v v1 l1) (k : Grew w1 w2 v1 v2 l2) : Grew w w2 v v2 l2 := by
  refine ⟨k.own, h.touch.trans k.touch (fun i hi e => ?_), ?_⟩
  · rcases h.pos with a | ⟨g, a, b⟩
    · rw [← a]; exact e
    · rw [a] at e
      cases e
      omega
  · rcases k.pos with a | ⟨g, a, b⟩
    · rw [a]; exact h.pos
    · exact .inr ⟨g, a, Nat.le_trans h.touch.size b⟩
theorem Grew.still {w w1 w2 : World} {v v1 : Value} {l1 : Bs} (h : Grew w w1 v v1 l1) (k : Touch (fun _ => False) w1 w2) : Grew w w2 v v1 l1 :=
  ⟨h.own.kept k (fun _ _ e => e), h.touch.trans k (fun _ _ e => e.elim), h.pos⟩
theorem Grew.from {w0 w w1 : World} {v v1 : Value} {l1 : Bs} (k : Touch (fun _ => False) w0 w) (h : Grew w w1 v v1 l1) : Grew w0 w1 v v1 l1 :=
  ⟨h.own, Touch.trans (k.mono (fun _ _ e => e.elim)) h.touch (fun _ _ e => e), h.pos.imp id (fun ⟨g, a, b⟩ => ⟨g, a, Nat.le_trans k.size b⟩)⟩
theorem grew_of {w w1 : World} {v v' : Value} {l m : Bs} {o : Obj} (hown : w1.ownsRow 0 5 1 v' (l.length + m.length) (bv l ++ bv m)) (hg : (w.alloc o).grownBy w1 v.ownBlock) (hat : v'.ownBlock = v.ownBlock ∨ v'.ownBlock = some (w.heap.size + 1)) : Grew w w1 v v' (l ++ m) := by
  refine ⟨?_, Touch.grown ((Touch.refl _ w).alloc o) hg (fun k e _ => e), hat.imp id (fun e => ⟨_, e, by omega⟩)⟩
  unfold OB
  rw [bv_append, List.length_append]
  exact hown
theorem grew_str {w w1 : World} {v v' : Value} {l m : Bs} (hown : w1.ownsRow 0 5 1 v' (l.length + m.length) (bv l ++ bv m)) (hg : w.grownBy w1 v.ownBlock) (hat : v'.ownBlock = v.ownBlock ∨ ∃ g, v'.ownBlock = some g ∧ w.heap.size ≤ g) : Grew w w1 v v' (l ++ m) := by
  refine ⟨?_, Touch.grown (Touch.refl _ w) hg (fun k e _ => e), hat⟩
  unfold OB
  rw [bv_append, List.length_append]
  exact hown
theorem info5b : (Tryd.prog.info? 5).map (fun i => (i.zero, i.size, i.bytes)) = some (some (.int .u8 0), 1, 1) := by kernel_rfl
theorem OB.conv {w : World} {v : Value} {s : Bs} (h : OB w v s) : (convert 53 9 v).run Tryd.prog w = .ok (.string ⟨s.toArray⟩) w := by
  have h2 := h.2
  rcases h2 with ⟨hv, h0⟩ | ⟨g, cap, cur, hv, hg, hh, rest⟩
  · obtain rfl : s = [] := List.eq_nil_of_length_eq_zero h0
    rw [hv, run_convert_bytes_string w 53 9 5 none 0 0 Tryd.underlying53 Tryd.underlying5 Tryd.underlying9]
    rfl
  · rw [hv]
    refine run_convert_bytes_back w 53 9 5 ⟨g, 0, none⟩ cap s Tryd.underlying53 Tryd.underlying5 Tryd.underlying9 (fun j hj => ?_)
    exact World.ownsRow.cells (g := g) h (by rw [hv]; rfl) j _ (by unfold bv; rw [List.getElem?_map, List.getElem?_eq_getElem hj]; rfl)

def signsB : ByteArray := ⟨#[34, 92, 8, 12, 10, 13, 9, 47]⟩
def lettersB : ByteArray := ⟨#[34, 92, 98, 102, 110, 114, 116, 47]⟩
def hexB : ByteArray := ⟨#[48, 49, 50, 51, 52, 53, 54, 55, 56, 57, 97, 98, 99, 100, 101, 102]⟩
def chr (x : Nat) : UInt8 := x.toUInt8
set_option maxRecDepth 100000 in
set_option maxHeartbeats 4000000 in
theorem quote_esc (x pl : Nat) (c : UInt8) (l : Bs) (v : Value) (w : World) (ho : OB w v l) (hl : l.length ≤ 1099511627776) (hx : x ≤ 1114111) (h47 : x ≠ 47) (hpl : pl < 8) (hc : lettersB[pl]'(by show pl < 8; exact hpl) = c)
    (K : ∀ w, Calls Tryd.prog 65 #[.string signsB, .int .i32 (x : Nat)] w fun e w' => e = .returned (.int .i64 (pl : Nat)) ∧ w' = w) :
    Calls Tryd.prog 36 #[v, .int .i64 (x : Nat)] w fun e w' => ∃ v', e = .returned v' ∧ Grew w w' v v' (l ++ [92, c]) := by
  obtain ⟨i0, hi5, hz0, hz1, hz2⟩ := info_parts info5b
  have h47B : (((x : Nat) : Int) != 47) = true := by simp; omega
  have HC := hid hc
  have HO := hid ho
  have KH := hid K
  clear K ho hc
  unfold signsB at KH
  go_enter Tryd.func36, Tryd.ntmps36
  go_wp2_with fail
  refine (KH.out _).mono ?_
  rintro e w1 ⟨rfl, rfl⟩
  clear KH
  obtain ⟨N, hN⟩ : ∃ N, l.length = N := ⟨_, rfl⟩
  have OW := hid (show w1.ownsRow 0 5 1 v N (bv l) from by rw [← hN]; exact HO.out)
  rw [hN] at hl
  have HN := hid hN
  clear hN HO
  have hcI : (((⟨#[34, 92, 98, 102, 110, 114, 116, 47]⟩ : ByteArray)[pl]'(by show pl < 8; exact hpl)).toNat : Int) = ((c.toNat : Nat) : Int) := by rw [← HC.out]; rfl
  go_wp2_with (at_builtin; (refine wpList_append_own_at _ rfl _ _ 53 rfl 0 5 i0 (.int .u8 0) 1 1 Tryd.underlying53 hi5 hz0 hz1 hz2 rfl (by decide) _ _ _ rfl (OW.out.alloc _) ⟨w1.heap.size, 0, none⟩ 2 2 [.int .u8 92, .int .u8 (c.toNat : Int)] rfl rfl (row_new w1 [.int .u8 92, .int .u8 (c.toNat : Int)] 5) (by intro u hu; simp at hu; rcases hu with rfl | rfl <;> rfl) (by unfold maxLen; omega) (by omega) (Nat.zero_le _) ?_))
  intro v' w2 hown hgrow _ hat
  go_wp2
  go_ret
  exact ⟨v', rfl, grew_of (m := [92, c]) (by rw [HN.out]; exact hown) hgrow hat⟩
set_option maxRecDepth 100000 in
set_option maxHeartbeats 4000000 in
theorem index_hex (y : Nat) (hy : y < 16) (w : World) : (Instr.index 9 (.string ⟨#[48, 49, 50, 51, 52, 53, 54, 55, 56, 57, 97, 98, 99, 100, 101, 102]⟩) (.int .i64 (y : Nat))).run Tryd.prog w = .ok (.int .u8 ((hexB[y]'(by show y < 16; exact hy)).toNat : Int)) w := by
  rcases (show y = 0 ∨ y = 1 ∨ y = 2 ∨ y = 3 ∨ y = 4 ∨ y = 5 ∨ y = 6 ∨ y = 7 ∨ y = 8 ∨ y = 9 ∨ y = 10 ∨ y = 11 ∨ y = 12 ∨ y = 13 ∨ y = 14 ∨ y = 15 by omega) with rfl | rfl | rfl | rfl | rfl | rfl | rfl | rfl | rfl | rfl | rfl | rfl | rfl | rfl | rfl | rfl <;> rfl
set_option maxRecDepth 100000 in
set_option maxHeartbeats 4000000 in
theorem quote_low (x : Nat) (c d : UInt8) (l : Bs) (v : Value) (w : World) (ho : OB w v l) (hl : l.length ≤ 1099511627776) (hx : x < 32) (hc : hexB[x / 16]'(by show x / 16 < 16; omega) = c) (hd : hexB[x % 16]'(by show x % 16 < 16; omega) = d)
    (K : ∀ w, Calls Tryd.prog 65 #[.string signsB, .int .i32 (x : Nat)] w fun e w' => e = .returned (.int .i64 (-1)) ∧ w' = w) :
    Calls Tryd.prog 36 #[v, .int .i64 (x : Nat)] w fun e w' => ∃ v', e = .returned v' ∧ Grew w w' v v' (l ++ [92, 117, 48, 48, c, d]) := by
  obtain ⟨i0, hi5, hz0, hz1, hz2⟩ := info_parts info5b
  obtain ⟨ad, cp, hv⟩ := own_shape ho
  subst hv
  obtain ⟨N, hN⟩ : ∃ N, l.length = N := ⟨_, rfl⟩
  have OW0 := hid (show w.ownsRow 0 5 1 (.slice ad N cp) N (bv l) from by rw [← hN]; exact ho)
  rw [hN]
  rw [hN] at hl
  have HN := hid hN
  clear hN ho
  have hx32 : ((x : Nat) : Int) < 32 := by omega
  have HC := hid hc
  have HD := hid hd
  have KH := hid K
  clear K hc hd
  unfold signsB at KH
  go_enter Tryd.func36, Tryd.ntmps36
  go_wp2_with fail
  refine (KH.out _).mono ?_
  rintro e w1 ⟨rfl, rfl⟩
  clear KH
  go_upto_region 5 with fail
  have and15 : bits .and .i64 ((x : Nat) : Int) 15 = (x : Int) % 16 := by
    have := (bits_nat .i64 62 (by decide) wraps_i64 x 15 (by omega) (by decide)).1
    rw [show ((15 : Nat) : Int) = 15 from rfl] at this
    rw [this, show 15 = 2 ^ 4 - 1 from rfl, Nat.and_two_pow_sub_one_eq_mod]
    omega
  have ix1 : ∀ w, (Instr.index 9 (.string ⟨#[48, 49, 50, 51, 52, 53, 54, 55, 56, 57, 97, 98, 99, 100, 101, 102]⟩) (.int .i64 ((x : Int) % 16))).run Tryd.prog w = .ok (.int .u8 (d.toNat : Int)) w := fun w => by
    rw [← HD.out]
    exact index_hex (x % 16) (by omega) w
  have ix0 : ∀ w, (Instr.index 9 (.string ⟨#[48, 49, 50, 51, 52, 53, 54, 55, 56, 57, 97, 98, 99, 100, 101, 102]⟩) (.int .i64 ((x : Int) / 16))).run Tryd.prog w = .ok (.int .u8 (c.toNat : Int)) w := fun w => by
    rw [← HC.out]
    exact index_hex (x / 16) (by omega) w
  go_region_law ((refine step_append_own _ (by rfl) _ _ _ (by rfl) 0 5 i0 _ 1 1 Tryd.underlying53 hi5 hz0 hz1 hz2 rfl (by decide) _ _ _ (by rfl) ((OW0.out.alloc _).drew) ⟨w1.heap.size, 0, none⟩ 6 6 [.int .u8 92, .int .u8 117, .int .u8 48, .int .u8 48, .int .u8 (c.toNat : Int), .int .u8 (d.toNat : Int)] (by rfl) (by rfl) (row_new w1 [.int .u8 92, .int .u8 117, .int .u8 48, .int .u8 48, .int .u8 (c.toNat : Int), .int .u8 (d.toNat : Int)] 5) (by intro u hu; simp at hu; rcases hu with rfl | rfl | rfl | rfl | rfl <;> rfl) (by unfold maxLen; omega) (by omega) (Nat.zero_le _) (w1.heap.size + 1) (by simp) ?_; intro v' w4 hown hgrow hat))
  all_goals
    go_wp2
    go_ret
    exact ⟨v', rfl, grew_of (m := [92, 117, 48, 48, c, d]) (by rw [HN.out]; exact hown) ⟨hgrow.os, hgrow.tape, hgrow.output, hgrow.size, hgrow.block⟩ hat⟩
set_option maxRecDepth 100000 in
set_option maxHeartbeats 4000000 in
theorem append_ascii (x : Nat) (l : Bs) (v : Value) (w : World) (ho : OB w v l) (hl : l.length ≤ 1099511627776) (hx : x < 128) :
    Calls Tryd.prog 66 #[v, .int .i32 (x : Nat)] w fun e w' => ∃ v', e = .returned v' ∧ Grew w w' v v' (l ++ [x.toUInt8]) := by
  obtain ⟨i0, hi5, hz0, hz1, hz2⟩ := info_parts info5b
  obtain ⟨ad, cp, hv⟩ := own_shape ho
  subst hv
  obtain ⟨N, hN⟩ : ∃ N, l.length = N := ⟨_, rfl⟩
  have OW := hid (show w.ownsRow 0 5 1 (.slice ad N cp) N (bv l) from by rw [← hN]; exact ho)
  rw [hN]
  rw [hN] at hl
  have HN := hid hN
  clear hN ho
  have hxB : ((x : Nat) : Int) ≤ 127 := by omega
  have HB := hid (show bv [x.toUInt8] = [.int .u8 (x : Int)] from by
    have h8 : x.toUInt8.toNat = x := Nat.mod_eq_of_lt (by omega)
    simp [bv, h8])
  go_enter Tryd.func66, Tryd.ntmps66
  go_wp2_with (at_builtin; (refine wpList_append_own_at _ rfl _ _ 53 rfl 0 5 i0 (.int .u8 0) 1 1 Tryd.underlying53 hi5 hz0 hz1 hz2 rfl (by decide) _ _ _ rfl (OW.out.alloc _) ⟨w.heap.size, 0, none⟩ 1 1 [.int .u8 (x : Int)] rfl rfl (row_new w [.int .u8 (x : Int)] 5) (by intro u hu; simp at hu; subst hu; rfl) (by unfold maxLen; omega) (by omega) (Nat.zero_le _) ?_))
  intro v' w2 hown hgrow _ hat
  go_wp2
  go_ret
  exact ⟨v', rfl, grew_of (m := [x.toUInt8]) (by rw [HN.out, HB.out]; exact hown) hgrow hat⟩
set_option maxRecDepth 100000 in
set_option maxHeartbeats 4000000 in
theorem quote_self (x : Nat) (pl : Int) (m l : Bs) (v : Value) (w : World) (ho : OB w v l) (hx : x ≤ 1114111) (h32 : 32 ≤ x) (hpl : pl < 0 ∨ x = 47)
    (K : ∀ w, Calls Tryd.prog 65 #[.string signsB, .int .i32 (x : Nat)] w fun e w' => e = .returned (.int .i64 pl) ∧ w' = w)
    (KA : ∀ w, OB w v l → Calls Tryd.prog 66 #[v, .int .i32 (x : Nat)] w fun e w' => ∃ v', e = .returned v' ∧ Grew w w' v v' (l ++ m)) :
    Calls Tryd.prog 36 #[v, .int .i64 (x : Nat)] w fun e w' => ∃ v', e = .returned v' ∧ Grew w w' v v' (l ++ m) := by
  have h32I : ¬ ((x : Nat) : Int) < 32 := by omega
  have HO := hid ho
  have KH := hid K
  have KB := hid KA
  clear K KA ho
  unfold signsB at KH
  by_cases hp : pl < 0
  · have hpI : ¬ (0 : Int) ≤ pl := by omega
    clear hpl
    go_enter Tryd.func36, Tryd.ntmps36
    go_wp2_with fail
    refine (KH.out _).mono ?_
    rintro e w1 ⟨rfl, rfl⟩
    clear KH
    go_wp2_with fail
    refine (KB.out _ HO.out).mono ?_
    rintro e w2 ⟨v', rfl, g⟩
    have G := hid g
    clear g KB HO
    go_wp2
    go_ret
    exact ⟨v', rfl, G.out⟩
  · have hpI : (0 : Int) ≤ pl := by omega
    have h47 : (((x : Nat) : Int) != 47) = false := by simp; omega
    clear hpl
    go_enter Tryd.func36, Tryd.ntmps36
    go_wp2_with fail
    refine (KH.out _).mono ?_
    rintro e w1 ⟨rfl, rfl⟩
    clear KH
    go_wp2_with fail
    refine (KB.out _ HO.out).mono ?_
    rintro e w2 ⟨v', rfl, g⟩
    have G := hid g
    clear g KB HO
    go_wp2
    go_ret
    exact ⟨v', rfl, G.out⟩
end Go.Proofs.YtabhlhgfacpohaaDoor

/- quote: a text in quotes, given its scalars and what each is quoted as; conditions: the two tables lie there, the text is not too long. -/
namespace Go.Proofs.YtabhlhgfacpohaaDoor
open Go.RowKit
open Go.Lib

theorem flat_le {qo : Nat → Bs} {rs : List Nat} (h : ∀ x ∈ rs, (qo x).length ≤ 6) : ∀ k, ((rs.take k).flatMap qo).length ≤ 6 * k
  | 0 => by simp
  | k + 1 => by
    have ih := flat_le h k
    rw [List.take_add_one, List.flatMap_append, List.length_append]
    cases e : rs[k]? with
    | none =>
      show _ + (([] : List Nat).flatMap qo).length ≤ _
      rw [List.flatMap_nil, List.length_nil]
      omega
    | some x =>
      have := h x (List.mem_of_getElem? e)
      show _ + (([x] : List Nat).flatMap qo).length ≤ _
      rw [List.flatMap_cons, List.flatMap_nil, List.append_nil]
      omega
def QOne (qo : Nat → Bs) (x : Nat) : Prop := ∀ (l : Bs) (v : Value) (w : World), OB w v l → l.length ≤ 1099511627776 →
  Calls Tryd.prog 36 #[v, .int .i64 (x : Nat)] w fun e w' => ∃ v', e = .returned v' ∧ Grew w w' v v' (l ++ qo x)
/-- Decode of x and a text, not strict. -/
def DecX (s : ByteArray) (rs : List Nat) : Prop := ∀ w, Tabs w → Calls Tryd.prog 13 #[.string (xs s), .int .i64 1, .bool false] w fun e w' =>
  ∃ g c a2 n2 c2 bad, e = .returned (.tuple #[.agg #[.int .i64 1, .slice (some ⟨g, 0, none⟩) (rs.length + 1) c, .slice a2 n2 c2, .int .i64 (bad : Nat)], .agg #[.int .i64 0, .int .i64 0]]) ∧
    Touch (fun _ => False) w w' ∧ w.heap.size ≤ g ∧ g < w'.heap.size ∧ rs.length + 1 ≤ c ∧ (∀ i x, rs[i]? = some x → w'.cell? ⟨g, i + 1, none⟩ = some (.int .i64 (x : Nat)))
set_option maxRecDepth 100000 in
set_option maxHeartbeats 4000000 in
theorem quote_of (qo : Nat → Bs) (s : ByteArray) (rs : List Nat) (l : Bs) (v : Value) (w : World) (ht : Tabs w) (ho : OB w v l) (hl : l.length + 6 * rs.length ≤ 1099511627000) (hr : rs.length ≤ 140737488355328) (hs : s.size ≤ 1099511627000)
    (h6 : ∀ x ∈ rs, (qo x).length ≤ 6) (KD : DecX s rs) (KQ : ∀ x ∈ rs, QOne qo x) :
    Calls Tryd.prog 21 #[v, .string s] w fun e w' => ∃ v', e = .returned v' ∧ Grew w w' v v' (l ++ 34 :: (rs.flatMap qo ++ [34])) := by
  obtain ⟨i0, hi5, hz0, hz1, hz2⟩ := info_parts info5b
  obtain ⟨ad, cp, hv⟩ := own_shape ho
  subst hv
  obtain ⟨N, hN⟩ : ∃ N, l.length = N := ⟨_, rfl⟩
  have OW := hid (show w.ownsRow 0 5 1 (.slice ad N cp) N (bv l) from by rw [← hN]; exact ho)
  rw [hN]
  rw [hN] at hl
  have HN := hid hN
  clear hN ho
  have K1 := hid (KD w ht)
  have K2 := hid KQ
  have H6 := hid h6
  clear KD KQ h6
  unfold xs at K1
  obtain ⟨R, hR⟩ : ∃ R, rs.length = R := ⟨_, rfl⟩
  rw [hR] at K1 hl hr
  have HR := hid hR
  clear hR
  go_enter Tryd.func21, Tryd.ntmps21
  go_wp2_with fail
  refine K1.out.mono ?_
  rintro e w2 ⟨g, c, a2, n2, c2, bad, rfl, tt, hg1, hg2, hc, hcell⟩
  have T2 := hid tt
  have HG := hid (And.intro hg1 hg2)
  have HC := hid hcell
  clear K1 tt hg1 hg2 hcell
  go_upto_region 2 with fail
  have TA := (Touch.refl (fun _ => False) w2).alloc (.cells #[.int .i64 1, .slice (some ⟨g, 0, none⟩) (R + 1) c, .slice a2 n2 c2, .int .i64 (bad : Nat)] 37) |>.alloc (.cells #[.int .i64 0, .int .i64 0] 29)
  have BX := (((Touch.refl (fun _ => False) (w2.alloc (.cells #[.int .i64 1, .slice (some ⟨g, 0, none⟩) (R + 1) c, .slice a2 n2 c2, .int .i64 (bad : Nat)] 37))).alloc (.cells #[.int .i64 0, .int .i64 0] 29)).block w2.heap.size (by rw [size_alloc1]; omega) id).trans (jfour_new (w := w2) (.int .i64 1) (.slice (some ⟨g, 0, none⟩) (R + 1) c) (.slice a2 n2 c2) (.int .i64 (bad : Nat)) 37)
  have T3 := hid (T2.out.trans TA (fun _ _ e => e))
  have C3 := hid (fun i x (h : rs[i]? = some x) => (TA.cell (p := ⟨g, i + 1, none⟩) HG.out.2 id).trans (HC.out i x h))
  have B3 := hid BX
  have HG3 := hid (show w.heap.size ≤ g ∧ w.heap.size ≤ w2.heap.size from ⟨HG.out.1, T2.out.size⟩)
  have HG4 := hid (show g < ((w2.alloc (.cells #[.int .i64 1, .slice (some ⟨g, 0, none⟩) (R + 1) c, .slice a2 n2 c2, .int .i64 (bad : Nat)] 37)).alloc (.cells #[.int .i64 0, .int .i64 0] 29)).heap.size from Nat.lt_of_lt_of_le HG.out.2 TA.size)
  clear TA BX T2 HC HG
  generalize (w2.alloc (.cells #[.int .i64 1, .slice (some ⟨g, 0, none⟩) (R + 1) c, .slice a2 n2 c2, .int .i64 (bad : Nat)] 37)).alloc (.cells #[.int .i64 0, .int .i64 0] 29) = w3 at *
  generalize w2.heap.size = q at *
  have HV := hid (show ∀ k, (Value.slice ad N cp).ownBlock = some k → k < w.heap.size from by
    intro k hk
    rcases OW.out.2 with ⟨hv, _⟩ | ⟨g', cap, cur, hv, _, hh, _⟩
    · rw [hv] at hk
      cases hk
    · rw [hv] at hk
      cases hk
      exact lt_of_block hh)
  have O3 := hid (show w3.ownsRow 0 5 1 (.slice ad N cp) N (bv l) from by
    have := (show OB w (.slice ad N cp) l from by unfold OB; rw [HN.out]; exact OW.out).kept T3.out (fun _ _ e => e)
    unfold OB at this
    rw [HN.out] at this
    exact this)
  go_wp2_with (at_builtin; (refine wpList_append_own_at _ rfl _ _ 53 rfl 0 5 i0 (.int .u8 0) 1 1 Tryd.underlying53 hi5 hz0 hz1 hz2 rfl (by decide) _ _ _ rfl (O3.out.alloc _) ⟨w3.heap.size, 0, none⟩ 1 1 [.int .u8 34] rfl rfl (row_new w3 [.int .u8 34] 5) (by intro u hu; simp at hu; subst hu; rfl) (by unfold maxLen; omega) (by omega) (Nat.zero_le _) ?_))
  intro v1 w4 hown hgrow _ hat
  have G4 := hid (grew_of (m := [34]) (l := l) (by rw [HN.out]; exact hown) hgrow hat)
  clear hown hgrow hat O3
  have NE := hid (show ∀ k, w.heap.size ≤ k → ¬ (Value.slice ad N cp).ownBlock = some k from fun k hk e => by have := HV.out k e; omega)
  have B4 := hid ((G4.out.touch.block q (lt_of_block B3.out) (NE.out q HG3.out.2)).trans B3.out)
  obtain ⟨⟨_, z1, _, _⟩, _⟩ := cells4 B4.out
  have hR1 : ¬ ((R : Int) + 1 < 1) := by omega
  have hcI : ((R : Int) + 1) ≤ (c : Int) := by omega
  go_upto_region 4 with fail
  case inl h =>
    have C4 := hid (show ∀ i x, rs[i]? = some x → w4.cell? ⟨g, 0 + i, none⟩ = some (.int .i64 (x : Nat)) from fun i x hx => by
      have := (List.getElem?_eq_some_iff.1 hx).1
      have h0 := HR.out
      omega)
    have HGW := hid (show g < w4.heap.size from Nat.lt_of_lt_of_le HG4.out G4.out.touch.size)
    have G4' := hid (show Grew w4 w4 v1 v1 (l ++ 34 :: (rs.take 0).flatMap qo) from by simpa using Grew.refl G4.out.own)
    have NV := hid (show ¬ v1.ownBlock = some g from by
      rcases G4.out.pos with e | ⟨b, e, hb⟩
      · rw [e]; exact NE.out g HG3.out.1
      · rw [e]
        intro e2
        cases e2
        have := HG4.out
        omega)
    clear z1 B3 B4 C3 HV
    go_loopg [0, 22] R (fun gk v0 v22 wq => ∃ (k : Nat) (vv : Value), k + gk = R ∧ vv = v0 ∧ v22 = .int .i64 (k : Nat) ∧ Hid (Grew w4 wq v1 vv (l ++ 34 :: (rs.take k).flatMap qo)))
    case atStart => exact ⟨0, v1, by omega, rfl, rfl, G4'⟩
    case round =>
      obtain ⟨k, vv, hk, rfl, rfl, GK⟩ := hrel
      clear G4'
      have HF := hid (flat_le H6.out k)
      by_cases hlt : k < R
      · exact absurd hlt (by omega)
      · have hltI : ¬ (k : Int) < (R : Int) := by omega
        have GF := hid (show Grew w4 wr v1 vv (l ++ 34 :: rs.flatMap qo) from by
          have := GK.out
          rw [List.take_of_length_le (by have := HR.out; omega)] at this
          exact this)
        have HF2 := hid (show (l ++ 34 :: rs.flatMap qo).length ≤ N + 1 + 6 * R from by
          have h1 := HF.out
          rw [List.take_of_length_le (by have := HR.out; omega)] at h1
          have := HN.out
          simp only [List.length_append, List.length_cons]
          omega)
        clear GK HF
        obtain ⟨M, hM⟩ : ∃ M, (l ++ 34 :: rs.flatMap qo).length = M := ⟨_, rfl⟩
        have OF := hid (show wr.ownsRow 0 5 1 vv M (bv (l ++ 34 :: rs.flatMap qo)) from by rw [← hM]; exact GF.out.own)
        rw [hM] at HF2
        have hM2 := HF2.out
        have HM := hid hM
        clear hM HF2
        go_wp2_with (at_builtin; (refine wpList_append_own_at _ rfl _ _ 53 rfl 0 5 i0 (.int .u8 0) 1 1 Tryd.underlying53 hi5 hz0 hz1 hz2 rfl (by decide) _ _ _ rfl (OF.out.alloc _) ⟨wr.heap.size, 0, none⟩ 1 1 [.int .u8 34] rfl rfl (row_new wr [.int .u8 34] 5) (by intro u hu; simp at hu; subst hu; rfl) (by unfold maxLen; omega) (by omega) (Nat.zero_le _) ?_))
        intro v9 w9 hown hgrow _ hat
        have G9 := hid (grew_of (m := [34]) (l := l ++ 34 :: rs.flatMap qo) (by rw [HM.out]; exact hown) hgrow hat)
        clear hown hgrow hat
        go_wp2
        go_ret
        refine ⟨v9, rfl, ?_⟩
        have := Grew.from T3.out ((G4.out.trans GF.out).trans G9.out)
        simpa using this
  case inr h =>
    have C4 := hid (show ∀ i x, rs[i]? = some x → w4.cell? ⟨g, 1 + i, none⟩ = some (.int .i64 (x : Nat)) from fun i x hx => by
      rw [Nat.add_comm]
      exact (G4.out.touch.cell (p := ⟨g, i + 1, none⟩) HG4.out (NE.out g HG3.out.1)).trans (C3.out i x hx))
    have HGW := hid (show g < w4.heap.size from Nat.lt_of_lt_of_le HG4.out G4.out.touch.size)
    have G4' := hid (show Grew w4 w4 v1 v1 (l ++ 34 :: (rs.take 0).flatMap qo) from by simpa using Grew.refl G4.out.own)
    have NV := hid (show ¬ v1.ownBlock = some g from by
      rcases G4.out.pos with e | ⟨b, e, hb⟩
      · rw [e]; exact NE.out g HG3.out.1
      · rw [e]
        intro e2
        cases e2
        have := HG4.out
        omega)
    clear z1 B3 B4 C3 HV
    go_loopg [0, 22] R (fun gk v0 v22 wq => ∃ (k : Nat) (vv : Value), k + gk = R ∧ vv = v0 ∧ v22 = .int .i64 (k : Nat) ∧ Hid (Grew w4 wq v1 vv (l ++ 34 :: (rs.take k).flatMap qo)))
    case atStart => exact ⟨0, v1, by omega, rfl, rfl, G4'⟩
    case round =>
      obtain ⟨k, vv, hk, rfl, rfl, GK⟩ := hrel
      clear G4'
      have HF := hid (flat_le H6.out k)
      by_cases hlt : k < R
      · obtain ⟨x, hx⟩ : ∃ x, rs[k]? = some x := ⟨rs[k]'(by have := HR.out; omega), List.getElem?_eq_getElem _⟩
        have hltI : (k : Int) < (R : Int) := by omega
        have ck : wr.cell? ⟨g, 1 + k, none⟩ = some (.int .i64 (x : Nat)) := (GK.out.touch.cell (p := ⟨g, 1 + k, none⟩) HGW.out NV.out).trans (C4.out k x hx)
        have KX := hid (K2.out x (List.mem_of_getElem? hx) _ vv wr GK.out.own (by
          have := HF.out
          have := HN.out
          simp only [List.length_append, List.length_cons]
          omega))
        have HX := hid hx
        clear hx
        go_wp2_with fail
        refine KX.out.mono ?_
        rintro e w5 ⟨v', rfl, g5⟩
        have G5 := hid (GK.out.trans g5)
        clear KX g5 ck
        go_wp2
        go_roundg (gk - 1)
        case measure => omega
        case rel =>
          refine ⟨k + 1, v', by omega, rfl, by go_num, hid ?_⟩
          have e : l ++ 34 :: (rs.take (k + 1)).flatMap qo = l ++ 34 :: (rs.take k).flatMap qo ++ qo x := by
            rw [List.take_add_one, HX.out]
            simp
          rw [e]
          exact G5.out
      · have hltI : ¬ (k : Int) < (R : Int) := by omega
        have GF := hid (show Grew w4 wr v1 vv (l ++ 34 :: rs.flatMap qo) from by
          have := GK.out
          rw [List.take_of_length_le (by have := HR.out; omega)] at this
          exact this)
        have HF2 := hid (show (l ++ 34 :: rs.flatMap qo).length ≤ N + 1 + 6 * R from by
          have h1 := HF.out
          rw [List.take_of_length_le (by have := HR.out; omega)] at h1
          have := HN.out
          simp only [List.length_append, List.length_cons]
          omega)
        clear GK HF
        obtain ⟨M, hM⟩ : ∃ M, (l ++ 34 :: rs.flatMap qo).length = M := ⟨_, rfl⟩
        have OF := hid (show wr.ownsRow 0 5 1 vv M (bv (l ++ 34 :: rs.flatMap qo)) from by rw [← hM]; exact GF.out.own)
        rw [hM] at HF2
        have hM2 := HF2.out
        have HM := hid hM
        clear hM HF2
        go_wp2_with (at_builtin; (refine wpList_append_own_at _ rfl _ _ 53 rfl 0 5 i0 (.int .u8 0) 1 1 Tryd.underlying53 hi5 hz0 hz1 hz2 rfl (by decide) _ _ _ rfl (OF.out.alloc _) ⟨wr.heap.size, 0, none⟩ 1 1 [.int .u8 34] rfl rfl (row_new wr [.int .u8 34] 5) (by intro u hu; simp at hu; subst hu; rfl) (by unfold maxLen; omega) (by omega) (Nat.zero_le _) ?_))
        intro v9 w9 hown hgrow _ hat
        have G9 := hid (grew_of (m := [34]) (l := l ++ 34 :: rs.flatMap qo) (by rw [HM.out]; exact hown) hgrow hat)
        clear hown hgrow hat
        go_wp2
        go_ret
        refine ⟨v9, rfl, ?_⟩
        have := Grew.from T3.out ((G4.out.trans GF.out).trans G9.out)
        simpa using this
end Go.Proofs.YtabhlhgfacpohaaDoor
