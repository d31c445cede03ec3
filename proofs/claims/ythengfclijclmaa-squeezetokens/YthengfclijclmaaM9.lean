/- Texts of this proof, one behind the other: what each says stands ahead of it. -/
import Derived.Deep.AppendLies
import Derived.Test.YthengfclijclmaaM0
import Derived.Test.YthengfclijclmaaM5
import Derived.Test.YthengfclijclmaaM8
import Derived.Deep.RegionHeld3
import Derived.Deep.RegionLaw
import Derived.Deep.LoopGhost
import Derived.BigRegion
/- A byte appended to a list of bytes that the call owns, as a step of a statement whose order is open: the old list's bytes stay; conditions: together at most two to the forty-seventh bytes. -/
namespace Go.Proofs.Ythengfclijclmaa
open Go.RowKit

theorem run_append_keep {P : Program} (w : World) (t ty : TypeId) (e : TypeId) (i : TypeInfo) (z : Value) (bytes : Nat) (ht : P.underlying t = some (.slice e)) (hi : P.info? e = some i) (hz : i.zero = some z)
    (hsize : i.size = 1) (hby : i.bytes = bytes) (hzs : z.cells.size = 1) (g0 n c0 : Nat) (xs : List Value) (hown : w.ownsRow 0 e 1 (.slice (some ⟨g0, 0, none⟩) n c0) n xs)
    (ad : Addr) (m c : Nat) (news : List Value) (hl : news.length = m * 1) (hnews : ∀ j u, news[j]? = some u → w.cell? (ad.add j) = some u) (h1 : ∀ u ∈ news, u.oneCell' = true)
    (hm : 0 < m) (h63 : n + m ≤ maxLen) (hbytes : (n + m) * bytes ≤ 140737488355328) :
    ∃ g cap w', (Builtin.append_ #[t, t] ty #[.slice (some ⟨g0, 0, none⟩) n c0, .slice (some ad) m c]).run P w = .ok (.slice (some ⟨g, 0, none⟩) (n + m) cap) w' ∧
      w'.ownsRow 0 e 1 (.slice (some ⟨g, 0, none⟩) (n + m) cap) (n + m) (xs ++ news) ∧ w.grownBy w' (some g0) ∧ (g = g0 ∨ g = w.heap.size) ∧ ∀ j, j < n → w'.cell? ⟨g0, j, none⟩ = w.cell? ⟨g0, j, none⟩ := by
  obtain ⟨g, cap, w', hr, h2, h3, h4, h5⟩ := run_append_lies (P := P) w t ty 0 e i z 1 bytes ht hi hz hsize hby hzs (by decide) _ n xs hown ad m c news hl hnews h1 hm h63 hbytes (Nat.zero_le _) w.heap.size rfl
  have hg0 : (g = g0 ∨ g = w.heap.size) := by
    rcases h4 with h | h
    · simp [Value.ownBlock] at h
      exact .inl h.symm
    · exact .inr h
  refine ⟨g, cap, w', hr, h2, h3, hg0, fun j hj => ?_⟩
  have hxl : xs.length = n := by have := hown.1; omega
  rcases hown.2 with ⟨h, _⟩ | ⟨g1, cap1, cur, hv, _, hg, hnc, hcm, hcs, htake⟩
  · simp at h
  · simp at hv
    obtain ⟨rfl, rfl⟩ := hv
    have hold : w.cell? ⟨g0, j, none⟩ = some (xs[j]'(by omega)) := by
      have := hown.cells (g := g0) rfl j (xs[j]'(by omega)) (by rw [List.getElem?_eq_getElem (by omega)])
      rwa [add_zero] at this
    by_cases hroom : n + m ≤ c0
    · have hr2 := run_append_room (P := P) w t ty e i ht hi g0 n c0 cur hg ad m c news (by rw [hsize]; exact hl) hnews h1 hroom (by rw [hsize]; simp at hl hcs; omega)
      rw [hr] at hr2
      simp only [Result.ok.injEq, Value.slice.injEq, Option.some.injEq, Addr.mk.injEq] at hr2
      obtain ⟨⟨⟨hgg, _, _⟩, _⟩, _⟩ := hr2
      subst hgg
      have := h2.cells (g := g) rfl j (xs[j]'(by omega)) (by rw [List.getElem?_append_left (by omega), List.getElem?_eq_getElem (by omega)])
      rw [add_zero] at this
      rw [this, hold]
    · have holds : ∀ j u, xs[j]? = some u → w.cell? ((⟨g0, 0, none⟩ : Addr).add j) = some u := hown.cells (g := g0) rfl
      have hr2 := run_append_grow (P := P) w t ty e i z ht hi hz ⟨g0, 0, none⟩ n c0 xs (by rw [hsize]; omega) holds ad m c news (by rw [hsize]; exact hl) hnews (by omega) (by unfold maxLen at h63; omega) (by rw [hby]; exact growslice_fits (by omega) hbytes)
      rw [hr] at hr2
      simp only [Result.ok.injEq] at hr2
      rw [hr2.2]
      exact World.cell?_of_block (Below.heap_alloc w.drew _ g0 (lt_of_block hg))

/-- At a step of a region that draws its order. -/
theorem step_append_keep {P : Program} (w : World) {ops : Array Oper} {o : Oper} {a : Act} {K : Act → World → Prop} {Q : Exit → Act → World → Prop} {E : Prop} (hgd : o.guard = none) (s x : Operand) (t : TypeId)
    (ho : o.op = .call { callee := .builtin .append, args := #[s, x], argTypes := #[t, t] })
    (e : TypeId) (i : TypeInfo) (z : Value) (bytes : Nat) (ht : P.underlying t = some (.slice e)) (hi : P.info? e = some i) (hz : i.zero = some z)
    (hsize : i.size = 1) (hby : i.bytes = bytes) (hzs : z.cells.size = 1) (g0 n c0 : Nat) (xs : List Value) (hs : a.eval s = .slice (some ⟨g0, 0, none⟩) n c0) (hown : w.ownsRow 0 e 1 (.slice (some ⟨g0, 0, none⟩) n c0) n xs)
    (ad : Addr) (m c : Nat) (news : List Value) (hx : a.eval x = .slice (some ad) m c) (hl : news.length = m * 1) (hnews : ∀ j u, news[j]? = some u → w.cell? (ad.add j) = some u) (h1 : ∀ u ∈ news, u.oneCell' = true)
    (hm : 0 < m) (h63 : n + m ≤ maxLen) (hbytes : (n + m) * bytes ≤ 140737488355328) (H : Nat) (hH : w.heap.size = H)
    (h : ∀ g cap w', w'.ownsRow 0 e 1 (.slice (some ⟨g, 0, none⟩) (n + m) cap) (n + m) (xs ++ news) → w.grownBy w' (some g0) → (g = g0 ∨ g = H) → (∀ j, j < n → w'.cell? ⟨g0, j, none⟩ = w.cell? ⟨g0, j, none⟩) → K (a.put o.dst (.slice (some ⟨g, 0, none⟩) (n + m) cap)) w') :
    if Region.wanted o (yielded ops a.tmps) = true then Oper.wp P o a w K Q else E := by
  have hw : Region.wanted o (yielded ops a.tmps) = true := by simp [Region.wanted, hgd]
  rw [if_pos hw]
  obtain ⟨g, cap, w', hr, h2, h3, h4, h5⟩ := run_append_keep (P := P) w t o.type e i z bytes ht hi hz hsize hby hzs g0 n c0 xs hown ad m c news hl hnews h1 hm h63 hbytes
  unfold Oper.wp execOp
  simp only [ho, resolve, invoke, builtin, Sem.run_bind, Sem.run_pure, Result.andThen_ok, List.map_toArray, List.map_cons, List.map_nil, hs, hx, hr]
  exact h g cap w' h2 h3 (by rw [← hH]; exact h4) h5
end Go.Proofs.Ythengfclijclmaa

/- Each length and each distance is told by just one symbol: plain counts; no condition. -/
namespace Go.Proofs.Ythengfclijclmaa

def pl (L s : Nat) : Bool := decide (257 ≤ s ∧ s ≤ 285 ∧ lenN s ≤ L ∧ L < lenN s + 2 ^ lb s ∧ (s ≠ 284 ∨ L ≠ 258))
def pd (D s : Nat) : Bool := decide (s ≤ 29 ∧ dl s ≤ D ∧ D < dl s + 2 ^ db s)
def cnt (p : Nat → Bool) : Nat → Nat
  | 0 => 0
  | k + 1 => cnt p k + (p k).toNat
theorem cnt_le (p : Nat → Bool) : ∀ k, cnt p k ≤ k
  | 0 => Nat.le_refl _
  | k + 1 => by have := cnt_le p k; have := Bool.toNat_le (p k); simp only [cnt]; omega

theorem one_len : ∀ L, L < 259 → 3 ≤ L → cnt (pl L) 300 = 1 := by decide +kernel

theorem dl_pos : ∀ k, 1 ≤ dl k
  | 0 => Nat.le_refl _
  | k + 1 => by have := dl_pos k; rw [dl]; exact Nat.le_trans this (Nat.le_add_right _ _)

theorem cnt_dist (D : Nat) : ∀ k, k ≤ 30 → cnt (pd D) k = if 1 ≤ D ∧ D < dl k then 1 else 0
  | 0, _ => by
    rw [if_neg (by simp [dl]; omega)]
    rfl
  | k + 1, h => by
    have hp := dl_pos k
    have hs : dl (k + 1) = dl k + 2 ^ db k := rfl
    have hpw : 0 < 2 ^ db k := Nat.pow_pos (by decide)
    rw [cnt, cnt_dist D k (by omega)]
    by_cases h1 : 1 ≤ D ∧ D < dl k
    · rw [if_pos h1, if_pos (by omega)]
      have : pd D k = false := decide_eq_false (by omega)
      rw [this]
      rfl
    · rw [if_neg h1]
      by_cases h2 : dl k ≤ D ∧ D < dl k + 2 ^ db k
      · have : pd D k = true := decide_eq_true ⟨by omega, h2⟩
        rw [this, if_pos (by omega)]
        rfl
      · have : pd D k = false := decide_eq_false (by omega)
        rw [this, if_neg (by omega)]
        rfl

theorem cnt_past (D : Nat) : ∀ k, cnt (pd D) (30 + k) = cnt (pd D) 30
  | 0 => rfl
  | k + 1 => by
    have : pd D (30 + k) = false := decide_eq_false (by omega)
    rw [← Nat.add_assoc, cnt, cnt_past D k, this]
    rfl

theorem one_dist (D : Nat) (h1 : 1 ≤ D) (h2 : D ≤ 32768) : cnt (pd D) 300 = 1 := by
  have h := cnt_past D 270
  rw [show 30 + 270 = 300 by rfl] at h
  rw [h, cnt_dist D 30 (by omega)]
  have : dl 30 = 32769 := by decide
  rw [this, if_pos (by omega)]
end Go.Proofs.Ythengfclijclmaa

/- again of an unpacker: what it comes to; conditions: the tables are ones, what is unpacked fits into memory. -/
namespace Go.Proofs.Ythengfclijclmaa
open Go.RowKit Go.Lib

theorem own_cell {w : World} {g n cap : Nat} {out : List Nat} (h : w.ownsRow 0 5 1 (.slice (some ⟨g, 0, none⟩) n cap) n (bytesV out)) (i : Nat) (hi : i < out.length) : w.cell? ⟨g, i, none⟩ = some (.int .u8 ((out.getD i 0 : Nat) : Int)) := by
  have := h.cells (g := g) rfl i (.int .u8 ((out.getD i 0 : Nat) : Int)) (by
    unfold bytesV
    rw [List.getElem?_map, List.getElem?_eq_getElem hi, List.getD_eq_getElem?_getD, List.getElem?_eq_getElem hi]
    rfl)
  rwa [add_zero] at this

theorem again_more {w1 wr w2 : World} {ub r g cap g2 cap2 N x : Nat} {v : Value} {out : List Nat} {most : Int} {tl td : Option Addr} {s : ByteArray} {t : Nat} {o : Obj} (dn : UpDone w1 wr ub r v out most tl td s t) (h : Up wr ub r (.slice (some ⟨g, 0, none⟩) N cap) out most tl td) (hr : Rd wr r s t)
    (hg : (wr.alloc o).drew.grownBy w2 (some g)) (hown : w2.ownsRow 0 5 1 (.slice (some ⟨g2, 0, none⟩) (N + 1) cap2) (N + 1) (bytesV out ++ [.int .u8 (x : Nat)])) (hN : N = out.length) (hat : g2 = g ∨ g2 = wr.heap.size + 1) :
    UpDone w1 (w2.setCell ⟨ub, 1, none⟩ (.slice (some ⟨g2, 0, none⟩) (N + 1) cap2)) ub r v (out ++ [x]) most tl td s t := by
  refine dn.trans (fun v1 u1 r1 => ?_)
  have e1 := (up_cells u1).2.1
  have e2 := (up_cells h).2.1
  rw [e1] at e2
  simp only [Option.some.injEq] at e2
  subst e2
  refine up_grown h hr (o := o) ⟨hg.os, hg.tape, hg.output, hg.size, hg.block⟩ ?_ ?_
  · rw [List.length_append, List.length_singleton, ← hN]
    unfold bytesV at hown ⊢
    rw [List.map_append]
    exact hown
  · rcases hat with e | e
    · exact .inl (by rw [e]; rfl)
    · exact .inr (by rw [e]; rfl)

set_option maxRecDepth 100000 in
set_option maxHeartbeats 4000000 in
theorem again_ok (ub r bd lo hi : Nat) (v : Value) (out : List Nat) (most : Nat) (tl td : Option Addr) (s : ByteArray) (t sym d t1 : Nat) (fd : Nat → Nat) (ld : Nat) (w : World) (h : Up w ub r v out most tl td) (hr : Rd w r s t) (hs : s.size ≤ 140737488351232)
    (hT : Inf.Tbl fd ld) (hB : TblIn w bd fd ld lo hi) (hap : ∀ k, lo ≤ k → k < hi → k ≠ r) (hs1 : 257 ≤ sym) (hs2 : sym ≤ 285) (ht1 : t + lb sym ≤ 8 * s.size) (hn : Inf.nx fd ld s (t + lb sym) = (0, d, t1)) (hd : d ≤ 29) (ht2 : t1 + db d ≤ 8 * s.size)
    (hfar : dl d + Bt.rval s t1 (db d) ≤ out.length) (hroom : out.length + (lenN sym + Bt.rval s t (lb sym)) ≤ most) (hm1 : most ≤ 9223372036854775807) (hl : out.length ≤ 70368744177664) :
    Calls Try.prog 87 #[.pointer (some ⟨ub, 0, none⟩), .int .i64 (sym : Nat), .pointer (some ⟨bd, 0, none⟩)] w fun e w' => e = .returned (.int .i64 0) ∧ UpDone w w' ub r v (Inf.again (dl d + Bt.rval s t1 (db d)) (lenN sym + Bt.rval s t (lb sym)) out) most tl td s (t1 + db d) := by
  have hlb : lb sym ≤ 13 := by unfold lb; split <;> omega
  have hlen : lenN sym ≤ 40000 := by
    unfold lenN
    split
    · omega
    · have := ll_le (sym - 257) (by omega)
      omega
  have hdb := db_le d (by omega)
  have hdl := dl_le d (by omega)
  have K1 := hid (number_yes ub r v out most tl td s t (lenN sym) (lb sym) w h hr (by omega) (by omega) ht1 hlen)
  have hrv1 : Bt.rval s t (lb sym) < 8192 := Nat.lt_of_lt_of_le (Bt.rval_lt s t (lb sym)) (by have : 2 ^ lb sym ≤ 2 ^ 13 := Nat.pow_le_pow_right (by decide) hlb; omega)
  have hrv2 : Bt.rval s t1 (db d) < 8192 := Nat.lt_of_lt_of_le (Bt.rval_lt s t1 (db d)) (by have : 2 ^ db d ≤ 2 ^ 13 := Nat.pow_le_pow_right (by decide) hdb; omega)
  have HU := hid h
  have HR := hid hr
  have HB := hid hB
  have HAP := hid hap
  have hdl1 := dl_pos d
  obtain ⟨n, hnn⟩ : ∃ n, n = lenN sym + Bt.rval s t (lb sym) := ⟨_, rfl⟩
  obtain ⟨far, hff⟩ : ∃ far, far = dl d + Bt.rval s t1 (db d) := ⟨_, rfl⟩
  rw [← hnn] at hroom K1 ⊢
  rw [← hff] at hfar ⊢
  have hnb : n ≤ 50000 := by omega
  have hf1 : 1 ≤ far := by omega
  have hf2 : far ≤ 60000 := by omega
  have HFF := hid hff
  clear h hr hB hap hrv1 hrv2 hnn hff
  go_enter Try.func87, Try.ntmps87
  go_wp2_with fail
  refine (len_in sym w hs1 hs2).mono ?_
  rintro e w1 ⟨rfl, rfl⟩
  go_wp2_with fail
  refine K1.out.mono ?_
  rintro e w2 ⟨rfl, st1⟩
  have U2 := hid (HU.out.reads HR.out st1.touch)
  have R2 := hid st1.rd
  have ST2 := hid st1
  have c2 := (up_cells U2.out).1
  have B2 := hid (HB.out.kept st1.touch (fun k h1 h2 e => HAP.out k h1 h2 e))
  have N2 := hid (next_nx bd r (t + lb sym) lo hi fd ld s w2 hT B2.out st1.rd (by omega) ht1)
  rw [hn] at N2
  clear st1 K1
  go_wp2_with fail
  refine N2.out.mono ?_
  rintro e w3 ⟨rfl, st2⟩
  have U3 := hid (U2.out.reads R2.out st2.touch)
  have R3 := hid st2.rd
  have ST3 := hid (ST2.out.trans st2)
  have c3 := (up_cells U3.out).1
  clear st2 N2 ST2 B2 c2
  go_wp2_with fail
  refine (dist_in d w3 hd).mono ?_
  rintro e w4 ⟨rfl, rfl⟩
  have K2 := hid (number_yes ub r v out most tl td s t1 (dl d) (db d) w4 U3.out R3.out (by omega) (by omega) ht2 (by omega))
  rw [← HFF.out] at K2
  go_wp2_with fail
  refine K2.out.mono ?_
  rintro e w5 ⟨rfl, st3⟩
  have U5 := hid (U3.out.reads R3.out st3.touch)
  have R5 := hid st3.rd
  have ST5 := hid (ST3.out.trans st3)
  have c5 := (up_cells U5.out).2.1
  clear st3 K2 ST3 c3 U2 R2 U3 R3
  obtain ⟨av, cv, hav⟩ := up_shape U5.out
  have HRM := hid (hasRoom_any ub r v out most tl td n w5 U5.out (by omega) (by omega) (by omega))
  have hdec : decide ((n : Int) ≤ (most : Int) - (out.length : Int)) = true := decide_eq_true (by omega)
  rw [hdec] at HRM
  clear hdec
  subst hav
  go_wp2_with fail
  refine HRM.out.mono ?_
  rintro e w6 ⟨rfl, st4⟩
  have D6 := hid ((UpDone.reads HU.out HR.out (ST5.out.trans (st4.rstep R5.out))))
  clear st4 HRM ST5 U5 R5 c5
  go_wp2_with fail
  go_loopg [60] n (fun gk i wr => ∃ k : Nat, k + gk = n ∧ i = .int .i64 (k : Nat) ∧ UpDone w1 wr ub r (.slice av out.length cv) (Inf.again far k out) most tl td s (t1 + db d))
  case atStart => exact ⟨0, by omega, rfl, D6.out⟩
  case round =>
    obtain ⟨k, hk, rfl, hdone⟩ := hrel
    have DN := hid hdone
    obtain ⟨v1, u1, r1, tc1, o1⟩ := hdone
    have U1 := hid u1
    have R1 := hid r1
    clear u1 r1 tc1 o1
    by_cases hlt : k < n
    · have hlk := Inf.length_again far k out
      obtain ⟨g, cap, hv1, _, hg⟩ := U1.out.2.form (by omega)
      obtain ⟨N, hN⟩ : ∃ N, N = (Inf.again far k out).length := ⟨_, rfl⟩
      subst hv1
      have hcx := own_cell U1.out.2 (N - far) (by omega)
      have c1 := (up_cells U1.out).2.1
      have f1 : wr.frozen? ⟨ub, 1, none⟩ = false := by simp [World.frozen?, U1.out.1]
      obtain ⟨hne1, hne2, hne3⟩ := up_own U1.out R1.out
      have hown := U1.out.2
      obtain ⟨x, hx⟩ : ∃ x, x = (Inf.again far k out).getD (N - far) 0 := ⟨_, rfl⟩
      rw [← hx] at hcx
      rw [← hN] at c1 hown
      have HX := hid hx
      have HN := hid hN
      have hN1 : far ≤ N := by omega
      have hN2 : N ≤ 80000000000000 := by omega
      clear hx hN hlk
      have hge : ((N : Int) - (far : Int)) = ((N - far : Nat) : Int) := by omega
      obtain ⟨i0, hin, hz0, hz1, hz2⟩ := info_parts Try.info5
      have HGE := hid hge
      clear hge
      have hub := lt_of_block U1.out.1
      go_wp2_with fail
      obtain ⟨M, hM⟩ : ∃ M, M = N - far := ⟨_, rfl⟩
      have hwr : IntKind.i64.wrap ((N : Int) - (far : Int)) = (M : Int) := by rw [IntKind.wrap_i64]; omega
      have q1 : (0 : Int) ≤ (M : Int) := by omega
      have q2 : (M : Int) < (N : Int) := by omega
      rw [← hM] at hcx
      have HMM := hid hM
      clear hM
      have hgub : ub ≠ g := fun e => hne3 (by rw [e]; rfl)
      have hfz : ∀ o, (wr.alloc o).frozen? ⟨ub, 1, none⟩ = false := fun o => by rw [World.frozen?_of_block (w := wr) (Below.heap_alloc _ _ _ hub)]; exact f1
      have hca : ∀ o, (wr.alloc o).cell? ⟨ub, 1, none⟩ = some (.slice (some ⟨g, 0, none⟩) N cap) := fun o => by rw [World.cell?_of_block (w := wr) (Below.heap_alloc _ _ _ hub)]; exact c1
      go_region_law ((refine step_append_keep _ (by rfl) _ _ _ (by rfl) 5 i0 _ 1 Try.underlying25 hin hz0 hz1 hz2 rfl g N cap _ (by rfl) ((hown.alloc _).drew) ⟨wr.heap.size, 0, none⟩ 1 1 [.int .u8 (x : Nat)] (by rfl) (by rfl) (World.news_of_block (cs := #[.int .u8 (x : Nat)]) (t := 5) (fr := (0, 0)) (heap_alloc_new wr _)) (by simp [Value.oneCell']) (by omega) (by unfold maxLen; omega) (by omega) (wr.heap.size + 1) (by simp) ?_; intro g2 cap2 w2 hown2 hgrow hat hkeep; have k2 : w2.cell? ⟨ub, 1, none⟩ = some (.slice (some ⟨g, 0, none⟩) N cap) := (by rw [hgrow.cell_far _ (by simp; omega) (by simp; omega)]; simpa using hca _); have kf2 : w2.frozen? ⟨ub, 1, none⟩ = false := (by rw [hgrow.frozen_far _ (by simp; omega) (by simp; omega)]; simpa using hfz _)))
      all_goals
        rw [← HN.out] at U1
        have FIN := hid (again_more DN.out U1.out R1.out hgrow hown2 HN.out hat)
        clear hown2 hgrow hat hkeep
        go_wp2
        go_roundg (gk - 1)
        case measure => omega
        case rel =>
          refine ⟨k + 1, by omega, by go_num, ?_⟩
          rw [Inf.again_last, ← HN.out, ← HX.out]
          exact FIN.out
    · obtain rfl : k = n := by omega
      go_wp2
      go_ret
      exact ⟨rfl, DN.out⟩
end Go.Proofs.Ythengfclijclmaa
