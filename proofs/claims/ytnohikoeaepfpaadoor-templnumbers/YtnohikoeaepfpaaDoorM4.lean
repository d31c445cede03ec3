/- Texts of this proof, one behind the other: what each says stands ahead of it. -/
import Derived.Test.YtnohikoeaepfpaaDoorM3
import Derived.Lib.SmallJoins
import Derived.Deep.RegionHeld3
/- join: a piece behind others; condition: the texts are short. -/
namespace Go.Proofs.YtnohikoeaepfpaaDoor
open Go.RowKit

def J (l : List Pc) (x : Pc) : List Pc := match l[l.length - 1]? with
  | some q => if q.g = -1 ∧ x.g = -1 then l.set (l.length - 1) ⟨q.t ++ x.t, q.g⟩ else l ++ [x]
  | none => l ++ [x]
theorem flatR_set0 : ∀ (l : List Pc) (i : Nat) (h : i < l.length) (t : Bs), flatR (l.set i ⟨t, (l[i]).g⟩) = (flatR l).set (2 * i) (sv t)
  | x :: r, 0, _, t => rfl
  | x :: r, i + 1, h, t => by
    have ih := flatR_set0 r i (by simpa using h) t
    show encR x ++ flatR (r.set i _) = (encR x ++ flatR r).set (2 * (i + 1)) (sv t)
    rw [List.set_append_right _ _ (by simp [encR]; omega)]
    simp only [List.getElem_cons_succ]
    rw [ih]
    simp [encR, show 2 * (i + 1) - 2 = 2 * i by omega]
theorem row_new1 (w : World) (o : Obj) (l : List Value) (t : TypeId) : ∀ (j : Nat) (u : Value), l[j]? = some u → ((w.alloc o).alloc (.cells l.toArray t)).cell? ((⟨w.heap.size + 1, 0, none⟩ : Addr).add j) = some u := by
  have h := row_new (w.alloc o) l t
  rw [show (w.alloc o).heap.size = w.heap.size + 1 from by show (w.heap.push o).size = _; simp] at h
  exact h
theorem OwE.moreA {W0 wr w1 : World} {e : TypeId} {v v' : Value} {s : List Pc} {xs : List Pc} {o : Obj} {k : Nat} (h : OwE W0 wr e v s) (hown : w1.ownsRow 0 e 2 v' (s.length + xs.length) (flatR s ++ flatR xs)) (hg : (wr.alloc o).grownBy w1 v.ownBlock) (hat : v'.ownBlock = v.ownBlock ∨ v'.ownBlock = some k) (hk : wr.heap.size ≤ k) : OwE W0 w1 e v' (s ++ xs) := by
  refine ⟨?_, fun g hg' => ?_, (h.touch.alloc o).grown hg (fun k e hk => by have := h.new k e; omega)⟩
  · rw [List.length_append, flatR_append]
    exact hown
  · rcases hat with e | e
    · exact h.new g (by rw [← e]; exact hg')
    · rw [e] at hg'
      simp at hg'
      have := h.touch.size
      omega
theorem size_alloc (w : World) (o : Obj) : (w.alloc o).heap.size = w.heap.size + 1 := by
  show (w.heap.push o).size = _
  simp
theorem sv_add (a b : Bs) : (⟨a.toArray⟩ : ByteArray) ++ ⟨b.toArray⟩ = ⟨(a ++ b).toArray⟩ := by
  apply ByteArray.ext
  simp [ByteArray.data_append]
set_option maxRecDepth 100000 in
set_option maxHeartbeats 4000000 in
theorem join_any (W0 wr : World) (v : Value) (l : List Pc) (x : Pc) (h : OwE W0 wr 35 v l) (hl : l.length ≤ 4096) (ht : ∀ q ∈ l, q.t.length ≤ 4096) (hx : x.t.length ≤ 4096) :
    Calls Tryd.prog 13 #[v, .agg #[sv x.t, gv x.g]] wr fun e w' => ∃ v', e = .returned v' ∧ OwE W0 w' 35 v' (J l x) := by
  obtain ⟨i0, hi, hz0, hz1, hz2⟩ := info_parts info35
  obtain ⟨xt, xg⟩ := x
  dsimp only at hx ⊢
  obtain ⟨a, c, hv⟩ := own_shape h.own
  subst hv
  have OW := hid h
  clear h
  by_cases h0 : l.length = 0
  · have hJ : J l ⟨xt, xg⟩ = l ++ [⟨xt, xg⟩] := by
      obtain rfl : l = [] := List.eq_nil_of_length_eq_zero h0
      rfl
    rw [hJ]
    have hneg : ¬ (0 : Int) ≤ (l.length : Int) - 1 := by omega
    clear h0 ht hJ
    have OW1 := hid (OW.out.still ((Touch.refl _ _).alloc (.cells #[sv xt, gv xg] 35)))
    clear OW
    go_enter Tryd.func13, Tryd.ntmps13
    go_wp2_with (at_builtin; refine wpList_append_own_at _ rfl _ _ 24 rfl 0 35 i0 (.agg #[.string ⟨#[]⟩, .int .i64 0]) 2 24 Tryd.underlying24 hi hz0 hz1 hz2 rfl (by decide) _ _ _ rfl (OW1.out.own.alloc _) ⟨wr.heap.size + 1, 0, none⟩ 1 1 [sv xt, gv xg] rfl rfl (row_new1 wr (.cells #[sv xt, gv xg] 35) [sv xt, gv xg] 35) (by intro u hu; simp at hu; rcases hu with rfl | rfl <;> rfl) (by unfold maxLen; omega) (by omega) (Nat.zero_le _) ?_)
    intro v4' w4 hown hgrow _ hat
    have P4 := hid (OW1.out.moreA (xs := [⟨xt, xg⟩]) hown hgrow hat (by rw [size_alloc]; omega))
    clear hown hgrow hat
    go_wp2
    go_ret
    exact ⟨_, rfl, P4.out⟩
  · obtain ⟨n, hn⟩ : ∃ n, l.length = n + 1 := ⟨l.length - 1, by omega⟩
    have hlt : n < l.length := by omega
    obtain ⟨q, hq⟩ : ∃ q, q = l[n] := ⟨_, rfl⟩
    have hJ : J l ⟨xt, xg⟩ = if q.g = -1 ∧ xg = -1 then l.set n ⟨q.t ++ xt, q.g⟩ else l ++ [⟨xt, xg⟩] := by
      unfold J
      rw [hn, Nat.add_sub_cancel, List.getElem?_eq_getElem hlt, hq]
    have hqt : q.t.length ≤ 4096 := ht q (by rw [hq]; exact List.getElem_mem hlt)
    rw [hJ]
    have OW1 := hid (OW.out.still ((Touch.refl _ _).alloc (.cells #[sv xt, gv xg] 35)))
    obtain ⟨g, cap, cur, hv, hg, hh, rest⟩ : ∃ g cap cur, Value.slice a l.length c = .slice (some ⟨g, 0, none⟩) l.length cap ∧ 0 ≤ g ∧ (wr.alloc (.cells #[sv xt, gv xg] 35)).heap[g]? = some (.cells cur 35 (0, 0)) ∧ l.length ≤ cap ∧ cap ≤ maxLen ∧ cur.size = cap * 2 ∧ cur.toList.take (l.length * 2) = flatR l := by
      rcases OW1.out.own.2 with ⟨_, e⟩ | e
      · omega
      · exact e
    cases hv
    clear hg rest hJ h0
    have HQ := hid hq
    have hc0 : (wr.alloc (.cells #[sv xt, gv xg] 35)).cell? ⟨g, n * 2, none⟩ = some (sv q.t) := by
      have := OW1.out.own.cells (g := g) rfl (2 * n) _ (flatR_get0 l n hlt)
      rw [add_g] at this
      rw [show n * 2 = 2 * n by omega, hq]
      exact this
    have hc1 : (wr.alloc (.cells #[sv xt, gv xg] 35)).cell? ⟨g, n * 2 + 1, none⟩ = some (gv q.g) := by
      have := OW1.out.own.cells (g := g) rfl (2 * n + 1) _ (flatR_get1 l n hlt)
      rw [add_g] at this
      rw [show n * 2 = 2 * n by omega, hq]
      exact this
    have hfz : (wr.alloc (.cells #[sv xt, gv xg] 35)).frozen? ⟨g, n * 2, none⟩ = false := by simp [World.frozen?, hh]
    have B0 := hid (show (wr.alloc (.cells #[sv xt, gv xg] 35)).heap[wr.heap.size]? = some (.cells #[sv xt, gv xg] 35 (0, 0)) from by show (wr.heap.push _)[_]? = _; simp)
    have b0 := cell_two0 B0.out
    have b1 := cell_two1 B0.out
    clear hh hq
    unfold sv gv at hc0 hc1 b0 b1 ⊢
    obtain ⟨qt, qg⟩ := q
    dsimp only at hc0 hc1 hqt HQ ⊢
    have hn1 : (l.length : Int) - 1 = (n : Int) := by omega
    have hpos : (0 : Int) ≤ (n : Int) := by omega
    clear hn
    go_enter Tryd.func13, Tryd.ntmps13
    by_cases hqg : qg = -1
    · by_cases hxg : xg = -1
      · subst hqg hxg
        have hadd := sv_add qt xt
        rw [if_pos ⟨rfl, rfl⟩]
        have HG := hid (show W0.heap.size ≤ g from OW.out.new g rfl)
        clear OW B0
        change Hid (OwE W0 (wr.alloc (.cells #[.string ⟨xt.toArray⟩, .int .i64 (-1)] 35)) 35 (.slice (some ⟨g, 0, none⟩) l.length c) l) at OW1
        change (wr.alloc (.cells #[.string ⟨xt.toArray⟩, .int .i64 (-1)] 35)).frozen? ⟨g, n * 2, none⟩ = false at hfz
        go_wp2
        generalize wr.alloc (.cells #[.string ⟨xt.toArray⟩, .int .i64 (-1)] 35) = wA at *
        go_region
        all_goals
          go_wp2
          go_ret
          refine ⟨_, rfl, ⟨?_, ?_, ?_⟩⟩
          · have h := OW1.out.own.stored (2 * n) (sv (qt ++ xt))
            rw [List.length_set]
            have e : flatR (l.set n ⟨qt ++ xt, -1⟩) = (flatR l).set (2 * n) (sv (qt ++ xt)) := by
              have := flatR_set0 l n hlt (qt ++ xt)
              rw [← HQ.out] at this
              exact this
            rw [e]
            rw [show 2 * n = n * 2 by omega] at h ⊢
            exact h.1.drew
          · intro k hk
            simp [Value.ownBlock] at hk
            have := HG.out
            omega
          · exact (OW1.out.touch.setCell (p := ⟨g, n * 2, none⟩) (fun hb => by have := HG.out; simp at hb; omega) _).drew
      · rw [if_neg (fun e => hxg e.2)]
        change Hid (OwE W0 (wr.alloc (.cells #[.string ⟨xt.toArray⟩, .int .i64 xg] 35)) 35 (.slice (some ⟨g, 0, none⟩) l.length c) l) at OW1
        subst hqg
        go_wp2_with (at_builtin; refine wpList_append_own_at _ rfl _ _ 24 rfl 0 35 i0 (.agg #[.string ⟨#[]⟩, .int .i64 0]) 2 24 Tryd.underlying24 hi hz0 hz1 hz2 rfl (by decide) _ _ _ rfl (OW1.out.own.alloc _) ⟨wr.heap.size + 1, 0, none⟩ 1 1 [sv xt, gv xg] rfl rfl (row_new1 wr (.cells #[sv xt, gv xg] 35) [sv xt, gv xg] 35) (by intro u hu; simp at hu; rcases hu with rfl | rfl <;> rfl) (by unfold maxLen; omega) (by omega) (Nat.zero_le _) ?_)
        intro v4' w4 hown hgrow _ hat
        have P4 := hid (OW1.out.moreA (xs := [⟨xt, xg⟩]) hown hgrow hat (by rw [size_alloc]; omega))
        clear hown hgrow hat
        go_wp2
        go_ret
        exact ⟨_, rfl, P4.out⟩
    · rw [if_neg (fun e => hqg e.1)]
      change Hid (OwE W0 (wr.alloc (.cells #[.string ⟨xt.toArray⟩, .int .i64 xg] 35)) 35 (.slice (some ⟨g, 0, none⟩) l.length c) l) at OW1
      go_wp2_with (at_builtin; refine wpList_append_own_at _ rfl _ _ 24 rfl 0 35 i0 (.agg #[.string ⟨#[]⟩, .int .i64 0]) 2 24 Tryd.underlying24 hi hz0 hz1 hz2 rfl (by decide) _ _ _ rfl (OW1.out.own.alloc _) ⟨wr.heap.size + 1, 0, none⟩ 1 1 [sv xt, gv xg] rfl rfl (row_new1 wr (.cells #[sv xt, gv xg] 35) [sv xt, gv xg] 35) (by intro u hu; simp at hu; rcases hu with rfl | rfl <;> rfl) (by unfold maxLen; omega) (by omega) (Nat.zero_le _) ?_)
      intro v4' w4 hown hgrow _ hat
      have P4 := hid (OW1.out.moreA (xs := [⟨xt, xg⟩]) hown hgrow hat (by rw [size_alloc]; omega))
      clear hown hgrow hat
      go_wp2
      go_ret
      exact ⟨_, rfl, P4.out⟩
end Go.Proofs.YtnohikoeaepfpaaDoor

/- Lists of bytes that are the call's own; no condition. -/
namespace Go.Proofs.YtnohikoeaepfpaaDoor
open Go.RowKit
open Go.Lib

def bv (l : Bs) : List Value := l.map fun b => .int .u8 (b.toNat : Int)
structure OwB (W0 wr : World) (v : Value) (l : Bs) : Prop where
  own : wr.ownsRow 0 5 1 v l.length (bv l)
  new : ∀ g, v.ownBlock = some g → W0.heap.size ≤ g
  touch : Touch (fun _ => False) W0 wr
theorem OwB.nil (w : World) : OwB w w (.slice none 0 0) [] := ⟨World.ownsRow_nil _ _ _ _, by intro g h; simp [Value.ownBlock] at h, Touch.refl _ _⟩
theorem OwB.still {W0 wr w' : World} {v : Value} {s : Bs} (h : OwB W0 wr v s) (tc : Touch (fun _ => False) wr w') : OwB W0 w' v s := by
  refine ⟨⟨h.own.1, ?_⟩, h.new, h.touch.trans tc (fun _ _ e => e)⟩
  rcases h.own.2 with h0 | ⟨g, cap, cur, hv, hg, hh, rest⟩
  · exact .inl h0
  · exact .inr ⟨g, cap, cur, hv, hg, (tc.block g (lt_of_block hh) id).trans hh, rest⟩
theorem OwB.more {W0 wr w1 : World} {v v' : Value} {s : Bs} {c : UInt8} {o : Obj} {k : Nat} (h : OwB W0 wr v s) (hown : w1.ownsRow 0 5 1 v' (s.length + 1) (bv s ++ [.int .u8 (c.toNat : Int)])) (hg : (wr.alloc o).grownBy w1 v.ownBlock) (hat : v'.ownBlock = v.ownBlock ∨ v'.ownBlock = some k) (hk : wr.heap.size ≤ k) : OwB W0 w1 v' (s ++ [c]) := by
  refine ⟨?_, fun g hg' => ?_, (h.touch.alloc o).grown hg (fun k e hk => by have := h.new k e; omega)⟩
  · rw [List.length_append]
    have e : bv (s ++ [c]) = bv s ++ [.int .u8 (c.toNat : Int)] := by simp [bv]
    rw [e]
    exact hown
  · rcases hat with e | e
    · exact h.new g (by rw [← e]; exact hg')
    · rw [e] at hg'
      simp at hg'
      have := h.touch.size
      omega
theorem OwB.conv {W0 wr : World} {v : Value} {s : Bs} (h : OwB W0 wr v s) : (convert 23 9 v).run Tryd.prog wr = .ok (.string ⟨s.toArray⟩) wr := by
  have h2 := h.own.2
  rcases h2 with ⟨hv, h0⟩ | ⟨g, cap, cur, hv, hg, hh, rest⟩
  · obtain rfl : s = [] := List.eq_nil_of_length_eq_zero h0
    rw [hv, run_convert_bytes_string wr 23 9 5 none 0 0 Tryd.underlying23 Tryd.underlying5 Tryd.underlying9]
    rfl
  · rw [hv]
    refine run_convert_bytes_back wr 23 9 5 ⟨g, 0, none⟩ cap s Tryd.underlying23 Tryd.underlying5 Tryd.underlying9 (fun j hj => ?_)
    exact h.own.cells (g := g) (by rw [hv]; rfl) j _ (by unfold bv; rw [List.getElem?_map, List.getElem?_eq_getElem hj]; rfl)
theorem byte_new (w : World) (u : Value) : ∀ (j : Nat) (x : Value), [u][j]? = some x → (w.alloc (.cells #[u] 5)).cell? ((⟨w.heap.size, 0, none⟩ : Addr).add j) = some x := row_new w [u] 5
end Go.Proofs.YtnohikoeaepfpaaDoor

/- The decimal digits of a number, as the Templ laws write them; condition: the number is below 10000. -/
namespace Go.Proofs.YtnohikoeaepfpaaDoor
open Go.RowKit
open Go.Lib

def dB (n : Nat) : UInt8 := UInt8.ofNat (48 + n)
def decF : Nat → Nat → Bs
  | 0, _ => []
  | f + 1, n => if n < 10 then [dB n] else decF f (n / 10) ++ [dB (n % 10)]
theorem digit_nat (n : Nat) (h : n < 10) : (dB n).toNat = 48 + n := by
  unfold dB
  rw [UInt8.toNat_ofNat']
  omega
theorem decF_ok : ∀ (k n : Nat), 1 ≤ k → n < 10 ^ k → (∀ c ∈ decF k n, digB c = true) ∧ 1 ≤ (decF k n).length ∧ (decF k n).length ≤ k ∧ val10 (decF k n) = n
  | 0, _, h, _ => by omega
  | k + 1, n, _, hn => by
    rw [decF]
    by_cases h : n < 10
    · rw [if_pos h]
      refine ⟨fun c hc => ?_, by simp, by simp, ?_⟩
      · simp at hc
        rw [hc, dig_iff]
        have e := digit_nat n h
        omega
      · show of10 0 (dB n) = n
        unfold of10
        rw [digit_nat n h]
        omega
    · rw [if_neg h]
      have hk : 1 ≤ k := by
        rcases Nat.eq_zero_or_pos k with e | e
        · rw [e] at hn; omega
        · exact e
      have ih := decF_ok k (n / 10) hk (by rw [Nat.pow_succ] at hn; omega)
      have hd : n % 10 < 10 := Nat.mod_lt _ (by decide)
      refine ⟨fun c hc => ?_, by simp, by simp; omega, ?_⟩
      · rcases List.mem_append.1 hc with hc | hc
        · exact ih.1 c hc
        · simp at hc
          rw [hc, dig_iff]
          have e := digit_nat (n % 10) hd
          omega
      · rw [val_snoc, ih.2.2.2, digit_nat _ hd]
        omega
theorem conv1 (w : World) (q x : Nat) (hx : x < 10) (h : w.cell? ⟨q, 0, none⟩ = some (.int .u8 (48 + (x : Int)))) : (convert 23 9 (.slice (some ⟨q, 0, none⟩) 1 1)).run Tryd.prog w = .ok (.string ⟨#[dB x]⟩) w := by
  refine run_convert_bytes_back w 23 9 5 ⟨q, 0, none⟩ 1 [dB x] Tryd.underlying23 Tryd.underlying5 Tryd.underlying9 (fun j hj => ?_)
  have hj' : j < 1 := hj
  obtain rfl : j = 0 := by omega
  show w.cell? ⟨q, 0, none⟩ = some (.int .u8 ((dB x).toNat : Int))
  rw [h, digit_nat x hx]
  congr 1
theorem cell_one (w : World) (u : Value) : (w.alloc (.cells #[u] 5)).cell? ⟨w.heap.size, 0, none⟩ = some u := by
  have := byte_new w u 0 u rfl
  rw [add_g] at this
  exact this
set_option maxRecDepth 100000 in
set_option maxHeartbeats 4000000 in
theorem lnumber_any : ∀ (k n : Nat), k ≤ 4 → 1 ≤ k → n < 10 ^ k → ∀ w : World, Calls Tryd.prog 9 #[.int .i64 (n : Nat)] w fun e w' => e = .returned (sv (decF k n)) ∧ Touch (fun _ => False) w w'
  | 0, _, _, h, _ => by omega
  | k + 1, n, hk4, _, hn => by
    intro w
    have hn4 : n < 10000 := Nat.lt_of_lt_of_le hn (Nat.pow_le_pow_right (by decide) hk4)
    rw [decF]
    by_cases h : n < 10
    · rw [if_pos h]
      have hI : (n : Int) < 10 := by omega
      have hcv := conv1 (w.alloc (.cells #[.int .u8 (48 + (n : Int))] 5)) w.heap.size n h (cell_one _ _)
      have TA := hid ((Touch.refl (fun _ => False) w).alloc (.cells #[.int .u8 (48 + (n : Int))] 5))
      unfold sv
      clear hn
      go_enter Tryd.func9, Tryd.ntmps9
      go_wp2
      go_ret
      exact ⟨rfl, TA.out⟩
    · rw [if_neg h]
      have hI : ¬ (n : Int) < 10 := by omega
      have hk : 1 ≤ k := by
        rcases Nat.eq_zero_or_pos k with e | e
        · rw [e] at hn; omega
        · exact e
      have KR := hid (lnumber_any k (n / 10) (by omega) hk (by rw [Nat.pow_succ] at hn; omega))
      have hdI : (n : Int) / 10 = ((n / 10 : Nat) : Int) := by omega
      have hd4 : n / 10 ≤ 1000 := by omega
      have hmI : (n : Int) % 10 = ((n % 10 : Nat) : Int) := by omega
      unfold sv at KR ⊢
      obtain ⟨m, hm⟩ : ∃ m, m = n % 10 := ⟨_, rfl⟩
      rw [← hm] at hmI ⊢
      have hm10 : m < 10 := by omega
      clear hm
      have hDl : (decF k (n / 10)).length ≤ 4 := by
        have := (decF_ok k (n / 10) hk (by rw [Nat.pow_succ] at hn; omega)).2.2.1
        omega
      clear hn
      generalize decF k (n / 10) = D at *
      have hadd : (⟨D.toArray⟩ : ByteArray) ++ ⟨#[dB m]⟩ = ⟨(D ++ [dB m]).toArray⟩ := sv_add D [dB m]
      generalize n / 10 = d at *
      have hmt : (n : Int).tmod 10 = (m : Int) := by rw [Int.tmod_eq_emod_of_nonneg (Int.natCast_nonneg n)]; exact hmI
      have hwd : IntKind.i64.wrap (d : Int) = (d : Int) := by rw [IntKind.wrap_i64]; omega
      have hwm : IntKind.i64.wrap (m : Int) = (m : Int) := by rw [IntKind.wrap_i64]; omega
      have hw48 : IntKind.i64.wrap (48 + (m : Int)) = 48 + (m : Int) := by rw [IntKind.wrap_i64]; omega
      have hwu : IntKind.u8.wrap (48 + (m : Int)) = 48 + (m : Int) := by rw [IntKind.wrap_u8]; omega
      have hco := fun (w : World) => cell_one w (.int .u8 (48 + (m : Int)))
      have hcv := (fun (w : World) (q : Nat) (h : w.cell? ⟨q, 0, none⟩ = some (.int .u8 (48 + (m : Int)))) => conv1 w q m hm10 h)
      go_enter Tryd.func9, Tryd.ntmps9
      go_wp2_with fail
      first | (go_region_held (fun _ => True) (trivial)
        (first
          | (go_at_call 9
             (try rw [hwd])
             refine (KR.out _).mono ?_
             rintro e w3 ⟨rfl, t3⟩
             have T3 := hid t3
             (try (have cc : w3.cell? ⟨w.heap.size, 0, none⟩ = some (.int .u8 (48 + (m : Int))) := (t3.cell (p := ⟨w.heap.size, 0, none⟩) (by show _ < (w.heap.push _).size; simp) id).trans (cell_one w _)))
             clear t3))) | fail
      all_goals
        go_wp2
        go_ret
        exact ⟨rfl, by
          first
            | exact ((Touch.refl (fun _ => False) w).drew.trans T3.out (fun _ _ e => e)).alloc _
            | exact (Touch.refl (fun _ => False) w).drew.trans T3.out (fun _ _ e => e)
            | exact ((Touch.refl (fun _ => False) w).drew.alloc _).trans T3.out (fun _ _ e => e)
            | exact ((Touch.refl (fun _ => False) w).alloc _).drew.trans T3.out (fun _ _ e => e)
            | exact ((Touch.refl (fun _ => False) w).alloc _).trans T3.out (fun _ _ e => e)⟩
end Go.Proofs.YtnohikoeaepfpaaDoor
