/- Show, and the document's Show; conditions: the texts fit into memory, the library's variables lie there. -/
import Derived.Test.YtmeekjfnmdbnpaaDoorTx
namespace Go.Proofs.YtmeekjfnmdbnpaaDoor
open Go.RowKit
open Go.Lib

/-- A request's cells. -/
def rqv (n0 n1 n2 n3 n4 : Int) (b0 b1 b2 b3 b4 b5 b6 b7 b8 b9 : Bool) (s0 s1 s2 : ByteArray) : Array Value := #[.int .i64 n0, .int .i64 n1, .int .i64 n2, .int .i64 n3, .bool b0, .bool b1, .bool b2, .bool b3, .bool b4, .bool b5, .bool b6, .bool b7, .bool b8, .bool b9, .int .i64 n4, .string s0, .string s1, .string s2]
theorem rqv_one (n0 n1 n2 n3 n4 : Int) (b0 b1 b2 b3 b4 b5 b6 b7 b8 b9 : Bool) (s0 s1 s2 : ByteArray) : (rqv n0 n1 n2 n3 n4 b0 b1 b2 b3 b4 b5 b6 b7 b8 b9 s0 s1 s2).all (·.oneCell') = true := by kernel_rfl
theorem rqv_info (n0 n1 n2 n3 n4 : Int) (b0 b1 b2 b3 b4 b5 b6 b7 b8 b9 : Bool) (s0 s1 s2 : ByteArray) : (Tryd.prog.info? 67).map (·.size) = some (rqv n0 n1 n2 n3 n4 b0 b1 b2 b3 b4 b5 b6 b7 b8 b9 s0 s1 s2).size := by kernel_rfl
theorem rqv_get (n0 n1 n2 n3 n4 : Int) (b0 b1 b2 b3 b4 b5 b6 b7 b8 b9 : Bool) (s0 s1 s2 : ByteArray) : ∀ k, k < 18 → (rqv n0 n1 n2 n3 n4 b0 b1 b2 b3 b4 b5 b6 b7 b8 b9 s0 s1 s2)[offK k]? = some (vf (vals n0 n1 n2 n3 n4 b0 b1 b2 b3 b4 b5 b6 b7 b8 b9 s0 s1 s2) k) := fun k hk => match k, hk with
  | 0, _ => rfl
  | 1, _ => rfl
  | 2, _ => rfl
  | 3, _ => rfl
  | 4, _ => rfl
  | 5, _ => rfl
  | 6, _ => rfl
  | 7, _ => rfl
  | 8, _ => rfl
  | 9, _ => rfl
  | 10, _ => rfl
  | 11, _ => rfl
  | 12, _ => rfl
  | 13, _ => rfl
  | 14, _ => rfl
  | 15, _ => rfl
  | 16, _ => rfl
  | 17, _ => rfl
  | k + 18, h => absurd h (by omega)
theorem vals_rnv (n0 n1 n2 n3 n4 : Int) (b0 b1 b2 b3 b4 b5 b6 b7 b8 b9 : Bool) (s0 s1 s2 : ByteArray) (r0 : -9223372036854775808 ≤ n0 ∧ n0 ≤ 9223372036854775807) (r1 : -9223372036854775808 ≤ n1 ∧ n1 ≤ 9223372036854775807) (r2 : -9223372036854775808 ≤ n2 ∧ n2 ≤ 9223372036854775807) (r3 : -9223372036854775808 ≤ n3 ∧ n3 ≤ 9223372036854775807) (r4 : -9223372036854775808 ≤ n4 ∧ n4 ≤ 9223372036854775807) : Rnv (vf (vals n0 n1 n2 n3 n4 b0 b1 b2 b3 b4 b5 b6 b7 b8 b9 s0 s1 s2)) := fun k hk => match k, hk with
  | 0, _ => ⟨by unfold TyK; exact ⟨_, rfl⟩, fun n e => by cases e; exact r0⟩
  | 1, _ => ⟨by unfold TyK; exact ⟨_, rfl⟩, fun n e => by cases e; exact r1⟩
  | 2, _ => ⟨by unfold TyK; exact ⟨_, rfl⟩, fun n e => by cases e; exact r2⟩
  | 3, _ => ⟨by unfold TyK; exact ⟨_, rfl⟩, fun n e => by cases e; exact r3⟩
  | 4, _ => ⟨by unfold TyK; exact ⟨_, rfl⟩, fun n e => by cases e; exact r4⟩
  | 5, _ => ⟨by unfold TyK; exact ⟨_, rfl⟩, fun n e => by cases e⟩
  | 6, _ => ⟨by unfold TyK; exact ⟨_, rfl⟩, fun n e => by cases e⟩
  | 7, _ => ⟨by unfold TyK; exact ⟨_, rfl⟩, fun n e => by cases e⟩
  | 8, _ => ⟨by unfold TyK; exact ⟨_, rfl⟩, fun n e => by cases e⟩
  | 9, _ => ⟨by unfold TyK; exact ⟨_, rfl⟩, fun n e => by cases e⟩
  | 10, _ => ⟨by unfold TyK; exact ⟨_, rfl⟩, fun n e => by cases e⟩
  | 11, _ => ⟨by unfold TyK; exact ⟨_, rfl⟩, fun n e => by cases e⟩
  | 12, _ => ⟨by unfold TyK; exact ⟨_, rfl⟩, fun n e => by cases e⟩
  | 13, _ => ⟨by unfold TyK; exact ⟨_, rfl⟩, fun n e => by cases e⟩
  | 14, _ => ⟨by unfold TyK; exact ⟨_, rfl⟩, fun n e => by cases e⟩
  | 15, _ => ⟨by unfold TyK; exact ⟨_, rfl⟩, fun n e => by cases e⟩
  | 16, _ => ⟨by unfold TyK; exact ⟨_, rfl⟩, fun n e => by cases e⟩
  | 17, _ => ⟨by unfold TyK; exact ⟨_, rfl⟩, fun n e => by cases e⟩
  | k + 18, h => absurd h (by omega)
theorem itoa_len (n : Int) (h0 : -9223372036854775808 ≤ n) (h1 : n ≤ 9223372036854775807) : (itoa n).length ≤ 20 := by
  have h : (trimM (itoa n)).length ≤ 19 := by
    rw [trim_itoa]
    exact dec_len_le _ 19 (by have : (10 : Nat) ^ 19 = 10000000000000000000 := by decide
                              omega) (by decide)
  unfold trimM at h
  split at h
  · rw [List.length_drop] at h
    omega
  · omega
theorem word_len : ∀ k, k < 18 → (wordB k).length ≤ 9 := by decide
theorem tell_len {V : Nat → Value} (hV : Rnv V) (k : Nat) (hk : k < 18) (B : Nat) (hB : 20 ≤ B) (hs : ∀ s, V k = .string s → s.size ≤ B) : (tellV (V k)).length ≤ B := by
  obtain ⟨h1, h2⟩ := hV k hk
  unfold TyK at h1
  split at h1
  · obtain ⟨n, e⟩ := h1
    have := h2 n e
    rw [e]
    show (if n = 0 then [] else itoa n).length ≤ B
    split
    · exact Nat.zero_le _
    · have := itoa_len n this.1 this.2
      omega
  · split at h1
    · obtain ⟨b, e⟩ := h1
      rw [e]
      cases b
      · exact Nat.zero_le _
      · exact Nat.le_trans (by decide : (3 : Nat) ≤ 20) hB
    · obtain ⟨s, e⟩ := h1
      rw [e]
      show s.data.toList.length ≤ B
      rw [len_size]
      exact hs s e
theorem wt_app : ∀ a b : List Bs, wt (a ++ b) = wt a + wt b
  | [], b => by simp [wt]
  | t :: a, b => by
    rw [List.cons_append, wt, wt, wt_app a b]
    omega
theorem wt_shL {V : Nat → Value} (B : Nat) (hB : ∀ k, k < 18 → (tellV (V k)).length ≤ B) : ∀ j, j ≤ 18 → wt (shL V j) ≤ j * (B + 109)
  | 0, _ => by simp [shL, shK, shP, wt]
  | j + 1, h => by
    have h1 := wt_shL B hB j (by omega)
    have h2 := hB j (by omega)
    have h3 := word_len j (by omega)
    rw [shL_succ, wt_app]
    have h4 : wt (if (tellV (V j)).isEmpty = true then [] else [wordB j, tellV (V j)]) ≤ B + 109 := by
      split
      · simp [wt]
      · simp only [wt]
        omega
    rw [Nat.succ_mul]
    omega
theorem vals_wt (n0 n1 n2 n3 n4 : Int) (b0 b1 b2 b3 b4 b5 b6 b7 b8 b9 : Bool) (s0 s1 s2 : ByteArray) (r0 : -9223372036854775808 ≤ n0 ∧ n0 ≤ 9223372036854775807) (r1 : -9223372036854775808 ≤ n1 ∧ n1 ≤ 9223372036854775807) (r2 : -9223372036854775808 ≤ n2 ∧ n2 ≤ 9223372036854775807) (r3 : -9223372036854775808 ≤ n3 ∧ n3 ≤ 9223372036854775807) (r4 : -9223372036854775808 ≤ n4 ∧ n4 ≤ 9223372036854775807) (z0 : s0.size ≤ 1099511627776) (z1 : s1.size ≤ 1099511627776) (z2 : s2.size ≤ 1099511627776) : wt (shL (vf (vals n0 n1 n2 n3 n4 b0 b1 b2 b3 b4 b5 b6 b7 b8 b9 s0 s1 s2)) 18) ≤ 140737488355000 := by
  have hV := vals_rnv n0 n1 n2 n3 n4 b0 b1 b2 b3 b4 b5 b6 b7 b8 b9 s0 s1 s2 r0 r1 r2 r3 r4
  have := wt_shL (V := vf (vals n0 n1 n2 n3 n4 b0 b1 b2 b3 b4 b5 b6 b7 b8 b9 s0 s1 s2)) 1099511627776 (fun k hk => tell_len hV k hk _ (by decide) (match k, hk with
    | 0, _ => fun s e => by cases e
    | 1, _ => fun s e => by cases e
    | 2, _ => fun s e => by cases e
    | 3, _ => fun s e => by cases e
    | 4, _ => fun s e => by cases e
    | 5, _ => fun s e => by cases e
    | 6, _ => fun s e => by cases e
    | 7, _ => fun s e => by cases e
    | 8, _ => fun s e => by cases e
    | 9, _ => fun s e => by cases e
    | 10, _ => fun s e => by cases e
    | 11, _ => fun s e => by cases e
    | 12, _ => fun s e => by cases e
    | 13, _ => fun s e => by cases e
    | 14, _ => fun s e => by cases e
    | 15, _ => fun s e => by cases e; exact z0
    | 16, _ => fun s e => by cases e; exact z1
    | 17, _ => fun s e => by cases e; exact z2
    | k + 18, h => absurd h (by omega))) 18 (by decide)
  omega
set_option maxRecDepth 100000 in
set_option maxHeartbeats 8000000 in
theorem show_any (n0 n1 n2 n3 n4 : Int) (b0 b1 b2 b3 b4 b5 b6 b7 b8 b9 : Bool) (s0 s1 s2 : ByteArray) (r0 : -9223372036854775808 ≤ n0 ∧ n0 ≤ 9223372036854775807) (r1 : -9223372036854775808 ≤ n1 ∧ n1 ≤ 9223372036854775807) (r2 : -9223372036854775808 ≤ n2 ∧ n2 ≤ 9223372036854775807) (r3 : -9223372036854775808 ≤ n3 ∧ n3 ≤ 9223372036854775807) (r4 : -9223372036854775808 ≤ n4 ∧ n4 ≤ 9223372036854775807) (z0 : s0.size ≤ 1099511627776) (z1 : s1.size ≤ 1099511627776) (z2 : s2.size ≤ 1099511627776) (w : World) (hx : Sx w) :
    Calls Tryd.prog 16 #[.agg (opts n0 n1 n2 n3 n4 b0 b1 b2 b3 b4 b5 b6 b7 b8 b9 s0 s1), .string s2] w fun e w' => e = .returned (sv (packL (shL (vf (vals n0 n1 n2 n3 n4 b0 b1 b2 b3 b4 b5 b6 b7 b8 b9 s0 s1 s2)) 18))) ∧ Touch (fun _ => False) w w' := by
  have HX := hid hx
  have HWT := hid (vals_wt n0 n1 n2 n3 n4 b0 b1 b2 b3 b4 b5 b6 b7 b8 b9 s0 s1 s2 r0 r1 r2 r3 r4 z0 z1 z2)
  have HRV := hid (vals_rnv n0 n1 n2 n3 n4 b0 b1 b2 b3 b4 b5 b6 b7 b8 b9 s0 s1 s2 r0 r1 r2 r3 r4)
  have HG := hid (rqv_get n0 n1 n2 n3 n4 b0 b1 b2 b3 b4 b5 b6 b7 b8 b9 s0 s1 s2)
  obtain ⟨V, hV⟩ : ∃ V, V = vf (vals n0 n1 n2 n3 n4 b0 b1 b2 b3 b4 b5 b6 b7 b8 b9 s0 s1 s2) := ⟨_, rfl⟩
  rw [← hV] at HWT HRV HG ⊢
  have T1 := hid ((Touch.refl (fun _ => False) w).alloc (.cells (opts n0 n1 n2 n3 n4 b0 b1 b2 b3 b4 b5 b6 b7 b8 b9 s0 s1) 39))
  have B1 := hid (blk_new (w := w) (opts n0 n1 n2 n3 n4 b0 b1 b2 b3 b4 b5 b6 b7 b8 b9 s0 s1) 39)
  clear hx hV r0 r1 r2 r3 r4 z0 z1 z2
  go_enter Tryd.func16, Tryd.ntmps16
  go_upto_region 1 with fail
  change Code.wp _ _ _ _ (w.alloc (.cells (opts n0 n1 n2 n3 n4 b0 b1 b2 b3 b4 b5 b6 b7 b8 b9 s0 s1) 39))
  generalize w.alloc (.cells (opts n0 n1 n2 n3 n4 b0 b1 b2 b3 b4 b5 b6 b7 b8 b9 s0 s1) 39) = w1 at *
  generalize w.heap.size = q1 at *
  have T2 := hid ((Touch.refl (fun _ => False) w1).alloc (.cells z18 67))
  have B2 := hid (blk_new (w := w1) z18 67)
  go_wp2_with (first | refine wpList_load_row (P := Tryd.prog) rfl 39 (.tmp 2) rfl q1 rfl 39 (#[.int .i64 n0, .int .i64 n1, .int .i64 n2, .int .i64 n3, .bool b0, .bool b1, .bool b2, .bool b3, .bool b4, .bool b5, .bool b6, .bool b7, .bool b8, .bool b9, .int .i64 n4, .string s0, .string s1]) (0, 0) _ B1.out Tryd.underlying39 rfl (opts_info ..) ?_ | refine wpList_store_row (P := Tryd.prog) rfl 67 (.tmp 5) (.tmp 8) rfl w1.heap.size (rqv n0 n1 n2 n3 n4 b0 b1 b2 b3 b4 b5 b6 b7 b8 b9 s0 s1 s2) rfl rfl 67 z18 B2.out (rqv_info ..) rfl (rqv_one ..) ?_ | fail)
  change Calls _ _ _ ((w1.alloc (.cells z18 67)).setRow w1.heap.size (rqv n0 n1 n2 n3 n4 b0 b1 b2 b3 b4 b5 b6 b7 b8 b9 s0 s1 s2)) _
  have T3 := hid ((T1.out.trans T2.out (fun _ _ e => e)).setRow (g := w1.heap.size) (fun h => absurd h (Nat.not_lt.2 T1.out.size)) (rqv n0 n1 n2 n3 n4 b0 b1 b2 b3 b4 b5 b6 b7 b8 b9 s0 s1 s2))
  have B3 := hid (setRow_heap _ w1.heap.size _ (rqv n0 n1 n2 n3 n4 b0 b1 b2 b3 b4 b5 b6 b7 b8 b9 s0 s1 s2) 67 (0, 0) B2.out)
  generalize (w1.alloc (.cells z18 67)).setRow w1.heap.size (rqv n0 n1 n2 n3 n4 b0 b1 b2 b3 b4 b5 b6 b7 b8 b9 s0 s1 s2) = w3 at *
  generalize w1.heap.size = q3 at *
  refine (texts_any q3 (rqv n0 n1 n2 n3 n4 b0 b1 b2 b3 b4 b5 b6 b7 b8 b9 s0 s1 s2) V w3 ⟨B3.out, rfl⟩ HG.out HRV.out (HX.out.new T3.out)).mono ?_
  rintro e w4 ⟨v4, rfl, ow⟩
  have OW := hid ow
  clear ow
  have KP := hid (pack_any v4 _ w4 OW.out.nl (HX.out.new (T3.out.trans OW.out.touch (fun _ _ e => e))) HWT.out)
  obtain ⟨X, hX, _, _⟩ := name_ba (packL (shL V 18))
  rw [hX] at KP
  go_wp2_with fail
  refine KP.out.mono ?_
  rintro e w5 ⟨rfl, t5⟩
  have T5 := hid ((T3.out.trans OW.out.touch (fun _ _ e => e)).trans t5 (fun _ _ e => e))
  clear t5 KP OW T3
  go_wp2
  go_ret
  exact ⟨by rw [hX]; rfl, T5.out⟩
end Go.Proofs.YtmeekjfnmdbnpaaDoor
