/- Texts of this proof, one behind the other: what each says stands ahead of it. -/
import Derived.Test.YtmokfheckngfiaaDoorM7
import Derived.Laws.Pointers
/- cutByLength of one scalar; conditions: those told. -/
namespace Go.Proofs.YtmokfheckngfiaaDoor
open Go.RowKit
open Go.Lib

def bordC : Array Value := #[.int .i64 128, .int .i64 2048, .int .i64 65536, .int .i64 1114112]
/-- The borders lie where they were laid. -/
def Bord (w : World) : Prop := ∃ t, w.heap[0]? = some (.cells bordC t (0, 0))
theorem Bord.new {w w' : World} (h : Bord w) (t : Touch (fun _ => False) w w') : Bord w' := by
  obtain ⟨ty, h⟩ := h
  exact ⟨ty, (t.block 0 (lt_of_block h) id).trans h⟩
theorem set_other {w : World} {g k i : Nat} (x : Value) (h : k ≠ g) : (w.setCell ⟨g, i, none⟩ x).heap[k]? = w.heap[k]? := Below.heap_setCell _ _ _ _ h
theorem Rb.apart {P : Nat → Prop} {W0 wr : World} {q p : Nat} {v : Value} {o : List Value} {cs : Array Value} (h : Rb P W0 wr q v o) (hc : wr.heap[p]? = some (.cells cs 38 (0, 0))) : ¬ (p = q ∨ v.ownBlock = some p) := fun e => by
  rcases e with e | e
  · have := h.blk
    rw [← e, hc] at this
    simp at this
  · obtain ⟨cur, hh⟩ := own_block41 h.own e
    rw [hc] at hh
    simp at hh
theorem Rb.setNew {P : Nat → Prop} {W0 wr : World} {q p i : Nat} {v u : Value} {o : List Value} {cs : Array Value} (h : Rb P W0 wr q v o) (hp : W0.heap.size ≤ p) (hc : wr.heap[p]? = some (.cells cs 38 (0, 0))) : Rb P W0 (wr.setCell ⟨p, i, none⟩ u) q v o := by
  have hqp : q ≠ p := fun e => by
    have := h.blk
    rw [e, hc] at this
    simp at this
  refine ⟨own_kept41 h.own (fun g hg => set_other _ (fun e => by
    obtain ⟨cur, hh⟩ := own_block41 h.own hg
    rw [e, hc] at hh
    simp at hh)), h.new, (set_other _ hqp).trans h.blk, h.touch.setCell (p := ⟨p, i, none⟩) (fun k => absurd k (Nat.not_lt.2 hp)) u, h.at_⟩
theorem cutL_same (x k : Nat) : cutL x x k = none := by
  unfold cutL
  rw [if_pos rfl]
theorem info3c : (Tryd.prog.info? 3).map (fun i => (i.zero, i.size, i.bytes)) = some (some (.int .i64 0), 1, 8) := by kernel_rfl
theorem run_index80 (k b : Nat) (w : World) (hk : k < 4) (hx : bordC[k]? = some (.int .i64 (b : Nat))) : (Instr.index 80 (.agg bordC) (.int .i64 (k : Int))).run Tryd.prog w = .ok (.int .i64 (b : Nat)) w := by
  obtain ⟨i0, hin, hz0, hz1, hz2⟩ := info_parts info3c
  rcases (show k = 0 ∨ k = 1 ∨ k = 2 ∨ k = 3 by omega) with rfl | rfl | rfl | rfl
  all_goals
    simp [bordC] at hx
    simp [Instr.index, run_underlying Tryd.underlying80, asIntOf, go_sem, part, sizeOf, typeInfo, hin, hz1, bordC, ← hx]
def bdL (i : Nat) : Nat := if i = 0 then 0 else if i = 1 then 128 else if i = 2 then 2048 else if i = 3 then 65536 else 1114112
structure CbB (w : World) (p q : Nat) (v : Value) (o : List Value) (x b : Nat) (z : List S.R2) (wq : World) : Prop where
  lt : x < b
  box : wq.heap[p]? = some (.cells #[.int .i64 (b : Nat), .int .i64 (x : Nat)] 38 (0, 0))
  rows : ∃ v' a c, Rb (fun k => k = q ∨ v.ownBlock = some k) w wq q v' (o ++ [.slice a z.length c]) ∧ S.Rg wq a z ∧ ∀ b o', a = some ⟨b, o', none⟩ → p < b
structure CbA (w : World) (p q : Nat) (v : Value) (o : List Value) (x b : Nat) (wq : World) : Prop where
  le : b ≤ x
  box : wq.heap[p]? = some (.cells #[.int .i64 (x : Nat), .int .i64 (x : Nat)] 38 (0, 0))
  rows : Rb (fun k => k = q ∨ v.ownBlock = some k) w wq q v o
set_option maxRecDepth 100000 in
set_option maxHeartbeats 16000000 in
theorem cutBL_one (x : Nat) (hx : okc 1 (x : Int) = true) (q : Nat) (v : Value) (o : List Value) (w : World) (hbd : Bord w) (h : Rb (fun k => k = q ∨ v.ownBlock = some k) w w q v o) (hb : o.length ≤ 1099511627) :
    Calls Tryd.prog 35 #[.agg #[.int .i64 (x : Nat), .int .i64 (x : Nat)], .func (.func 33) #[] #[.pointer (some ⟨q, 0, none⟩)]] w fun e w' => PutRow w q v o (List.zip (en8 (x : Int)) (en8 (x : Int))) e w' := by
  have B := hid (block_new w #[.int .i64 (x : Nat), .int .i64 (x : Nat)] 38)
  have TA := hid ((Touch.refl (fun _ => False) w).alloc (.cells #[.int .i64 (x : Nat), .int .i64 (x : Nat)] 38))
  have hxm : x ≤ 1114111 := by have h1 : 0 ≤ (x : Int) ∧ (x : Int) ≤ 1114111 := okc_in hx; omega
  have H := hid h
  have KC := hid (fun (i : Nat) (hi : i ≤ 3) w h => cut_none x x i hi (Nat.le_refl _) hxm (fun j _ => cutL_same x _) hx hx rfl q v o w h hb)
  obtain ⟨tb, hbd0⟩ := hbd
  have BD := hid ((TA.out.block 0 (lt_of_block hbd0) id).trans hbd0)
  clear h hx hbd0
  generalize List.zip (en8 (x : Int)) (en8 (x : Int)) = z at *
  go_enter Tryd.func35, Tryd.ntmps35
  go_upto_region 1 with fail
  have O1 := hid (H.out.still TA.out)
  generalize (w.alloc (.cells #[.int .i64 (x : Nat), .int .i64 (x : Nat)] 38)) = w1 at *
  obtain ⟨p, hp⟩ : ∃ p, p = w.heap.size := ⟨_, rfl⟩
  have HP := hid (show w.heap.size ≤ p by omega)
  have HP1 := hid (show p < w1.heap.size from by rw [hp]; exact lt_of_block B.out)
  rw [← hp] at B ⊢
  clear hp
  have hbd1 := BD.out
  go_wp2_with (first | refine wpList_load_row rfl 80 _ rfl 0 rfl tb bordC (0, 0) _ hbd1 Tryd.underlying80 rfl (by kernel_rfl) ?_ | fail)
  go_loopg [8] 4 (fun gk v8 wq => ∃ i : Nat, i + gk = 4 ∧ v8 = .int .i64 (i : Nat) ∧ (CbA w p q v o x (bdL i) wq ∨ CbB w p q v o x (bdL i) z wq))
  case atStart => exact ⟨0, by omega, rfl, .inl ⟨Nat.zero_le _, B.out, O1.out⟩⟩
  case round =>
    obtain ⟨i, hi, rfl, hst⟩ := hrel
    have ST := hid hst
    clear hst
    by_cases h4 : i < 4
    · obtain ⟨gk, rfl⟩ : ∃ j, gk = j + 1 := ⟨gk - 1, by omega⟩
      rcases (show i = 0 ∨ i = 1 ∨ i = 2 ∨ i = 3 by omega) with rfl | rfl | rfl | rfl
      · rcases ST.out with hA | hB
        · have AL := hid (show 0 ≤ x from hA.le)
          have AB := hid hA.box
          have AR := hid hA.rows
          clear ST hA
          have c0 : wr.cell? ⟨p, 0, none⟩ = some (.int .i64 (x : Nat)) := by simp [World.cell?, AB.out]
          have c1 : wr.cell? ⟨p, 1, none⟩ = some (.int .i64 (x : Nat)) := by simp [World.cell?, AB.out]
          have cf : ∀ j, wr.frozen? ⟨p, j, none⟩ = false := by intro j; simp [World.frozen?, AB.out]
          have lp := lt_of_block AB.out
          have hix : (Instr.index 80 (.agg bordC) (.int .i64 0)).run Tryd.prog wr = .ok (.int .i64 128) wr := run_index80 0 128 wr (by decide) rfl
          by_cases hlt : x < 128
          · have hmin : min (x : Int) 127 = (x : Int) := by omega
            have hmax : max (x : Int) 128 = 128 := by omega
            have TL := hid ((Touch.refl (fun _ => False) wr).alloc (.cells #[.int .i64 (x : Nat), .int .i64 (x : Nat)] 38))
            have A2 := hid (AR.out.still TL.out)
            have KK := hid (KC.out 0 (by decide) (wr.alloc (.cells #[.int .i64 (x : Nat), .int .i64 (x : Nat)] 38)) A2.out.now)
            have BX2 := hid ((TL.out.block p lp id).trans AB.out)
            have LP2 := hid (show p < (wr.alloc (.cells #[.int .i64 (x : Nat), .int .i64 (x : Nat)] 38)).heap.size from lt_of_block BX2.out)
            go_wp2_with fail
            generalize (wr.alloc (.cells #[.int .i64 (x : Nat), .int .i64 (x : Nat)] 38)) = w2 at *
            refine KK.out.mono ?_
            rintro e w3 ⟨rfl, v3, a3, c3, hrb, hrg, hnb⟩
            have O3 := hid (A2.out.back hrb)
            have BX3 := hid ((hrb.touch.block p LP2.out (A2.out.apart BX2.out)).trans BX2.out)
            have RG := hid hrg
            have NB := hid hnb
            clear hrb hrg hnb KK c0 c1 cf AB AR A2 TL BX2
            have d0 : w3.cell? ⟨p, 0, none⟩ = some (.int .i64 (x : Nat)) := by simp [World.cell?, BX3.out]
            have df : ∀ j, w3.frozen? ⟨p, j, none⟩ = false := by intro j; simp [World.frozen?, BX3.out]
            have O4 := hid (O3.out.setNew (i := 0) (u := .int .i64 128) HP.out BX3.out)
            have BX4 := hid (block_set BX3.out 0 (.int .i64 128))
            have RG4 := hid (RG.out.kept (((Touch.refl (fun k => k = p) w3).setCell (p := ⟨p, 0, none⟩) (fun _ => rfl) (.int .i64 128))) (fun b o' hab _ hS => by
              have e1 := NB.out b o' hab
              have e2 := LP2.out
              omega))
            have NB4 := hid (show ∀ b o', a3 = some ⟨b, o', none⟩ → p < b from fun b o' hab => by
              have e1 := NB.out b o' hab
              have e2 := LP2.out
              omega)
            clear O3 BX3 RG NB LP2
            go_wp2
            go_roundg gk
            case measure => omega
            case rel => exact ⟨1, by omega, by first | rfl | go_num, .inr ⟨hlt, BX4.out, v3, a3, c3, O4.out, RG4.out, NB4.out⟩⟩
          · have hmin : min (x : Int) 127 = 127 := by omega
            have hmax : max (x : Int) 128 = (x : Int) := by omega
            have hgt : ¬ ((x : Int) ≤ 127) := by omega
            have TL := hid ((Touch.refl (fun _ => False) (wr.setCell ⟨p, 0, none⟩ (.int .i64 (x : Nat)))).alloc (.cells #[.int .i64 (x : Nat), .int .i64 127] 38))
            have BX2 := hid (block_set AB.out 0 (.int .i64 (x : Nat)))
            have O4 := hid ((AR.out.setNew (i := 0) (u := .int .i64 (x : Nat)) HP.out AB.out).still TL.out)
            have BX4 := hid ((TL.out.block p (lt_of_block BX2.out) id).trans BX2.out)
            clear AR TL
            go_wp2
            go_roundg gk
            case measure => omega
            case rel => exact ⟨1, by omega, by first | rfl | go_num, .inl ⟨show 128 ≤ x by omega, BX4.out, O4.out⟩⟩
        · have := hB.lt
          have h5 : x < 0 := this
          omega
      · rcases ST.out with hA | hB
        · have AL := hid (show 128 ≤ x from hA.le)
          have AB := hid hA.box
          have AR := hid hA.rows
          clear ST hA
          have c0 : wr.cell? ⟨p, 0, none⟩ = some (.int .i64 (x : Nat)) := by simp [World.cell?, AB.out]
          have c1 : wr.cell? ⟨p, 1, none⟩ = some (.int .i64 (x : Nat)) := by simp [World.cell?, AB.out]
          have cf : ∀ j, wr.frozen? ⟨p, j, none⟩ = false := by intro j; simp [World.frozen?, AB.out]
          have lp := lt_of_block AB.out
          have hix : (Instr.index 80 (.agg bordC) (.int .i64 1)).run Tryd.prog wr = .ok (.int .i64 2048) wr := run_index80 1 2048 wr (by decide) rfl
          by_cases hlt : x < 2048
          · have hmin : min (x : Int) 2047 = (x : Int) := by omega
            have hmax : max (x : Int) 2048 = 2048 := by omega
            have TL := hid ((Touch.refl (fun _ => False) wr).alloc (.cells #[.int .i64 (x : Nat), .int .i64 (x : Nat)] 38))
            have A2 := hid (AR.out.still TL.out)
            have KK := hid (KC.out 1 (by decide) (wr.alloc (.cells #[.int .i64 (x : Nat), .int .i64 (x : Nat)] 38)) A2.out.now)
            have BX2 := hid ((TL.out.block p lp id).trans AB.out)
            have LP2 := hid (show p < (wr.alloc (.cells #[.int .i64 (x : Nat), .int .i64 (x : Nat)] 38)).heap.size from lt_of_block BX2.out)
            go_wp2_with fail
            generalize (wr.alloc (.cells #[.int .i64 (x : Nat), .int .i64 (x : Nat)] 38)) = w2 at *
            refine KK.out.mono ?_
            rintro e w3 ⟨rfl, v3, a3, c3, hrb, hrg, hnb⟩
            have O3 := hid (A2.out.back hrb)
            have BX3 := hid ((hrb.touch.block p LP2.out (A2.out.apart BX2.out)).trans BX2.out)
            have RG := hid hrg
            have NB := hid hnb
            clear hrb hrg hnb KK c0 c1 cf AB AR A2 TL BX2
            have d0 : w3.cell? ⟨p, 0, none⟩ = some (.int .i64 (x : Nat)) := by simp [World.cell?, BX3.out]
            have df : ∀ j, w3.frozen? ⟨p, j, none⟩ = false := by intro j; simp [World.frozen?, BX3.out]
            have O4 := hid (O3.out.setNew (i := 0) (u := .int .i64 2048) HP.out BX3.out)
            have BX4 := hid (block_set BX3.out 0 (.int .i64 2048))
            have RG4 := hid (RG.out.kept (((Touch.refl (fun k => k = p) w3).setCell (p := ⟨p, 0, none⟩) (fun _ => rfl) (.int .i64 2048))) (fun b o' hab _ hS => by
              have e1 := NB.out b o' hab
              have e2 := LP2.out
              omega))
            have NB4 := hid (show ∀ b o', a3 = some ⟨b, o', none⟩ → p < b from fun b o' hab => by
              have e1 := NB.out b o' hab
              have e2 := LP2.out
              omega)
            clear O3 BX3 RG NB LP2
            go_wp2
            go_roundg gk
            case measure => omega
            case rel => exact ⟨2, by omega, by first | rfl | go_num, .inr ⟨hlt, BX4.out, v3, a3, c3, O4.out, RG4.out, NB4.out⟩⟩
          · have hmin : min (x : Int) 2047 = 2047 := by omega
            have hmax : max (x : Int) 2048 = (x : Int) := by omega
            have hgt : ¬ ((x : Int) ≤ 2047) := by omega
            have TL := hid ((Touch.refl (fun _ => False) (wr.setCell ⟨p, 0, none⟩ (.int .i64 (x : Nat)))).alloc (.cells #[.int .i64 (x : Nat), .int .i64 2047] 38))
            have BX2 := hid (block_set AB.out 0 (.int .i64 (x : Nat)))
            have O4 := hid ((AR.out.setNew (i := 0) (u := .int .i64 (x : Nat)) HP.out AB.out).still TL.out)
            have BX4 := hid ((TL.out.block p (lt_of_block BX2.out) id).trans BX2.out)
            clear AR TL
            go_wp2
            go_roundg gk
            case measure => omega
            case rel => exact ⟨2, by omega, by first | rfl | go_num, .inl ⟨show 2048 ≤ x by omega, BX4.out, O4.out⟩⟩
        · have BL := hid (show x < 128 from hB.lt)
          have AB := hid (show wr.heap[p]? = some (.cells #[.int .i64 128, .int .i64 (x : Nat)] 38 (0, 0)) from hB.box)
          obtain ⟨v3, a3, c3, hrb, hrg, hnb⟩ := hB.rows
          have AR := hid hrb
          have RG := hid hrg
          have NB := hid hnb
          clear ST hB hrb hrg hnb
          have c0 : wr.cell? ⟨p, 0, none⟩ = some (.int .i64 128) := by simp [World.cell?, AB.out]
          have c1 : wr.cell? ⟨p, 1, none⟩ = some (.int .i64 (x : Nat)) := by simp [World.cell?, AB.out]
          have cf : ∀ j, wr.frozen? ⟨p, j, none⟩ = false := by intro j; simp [World.frozen?, AB.out]
          have lp := lt_of_block AB.out
          have hix : (Instr.index 80 (.agg bordC) (.int .i64 1)).run Tryd.prog wr = .ok (.int .i64 2048) wr := run_index80 1 2048 wr (by decide) rfl
          have hmin : min (x : Int) 2047 = (x : Int) := by have := BL.out; omega
          have hgt : ¬ ((128 : Int) ≤ (x : Int)) := by have := BL.out; omega
          have hmax : max (128 : Int) 2048 = 2048 := by omega
          have TL := hid ((Touch.refl (fun _ => False) (wr.setCell ⟨p, 0, none⟩ (.int .i64 2048))).alloc (.cells #[.int .i64 128, .int .i64 (x : Nat)] 38))
          have BX2 := hid (block_set AB.out 0 (.int .i64 2048))
          have O4 := hid ((AR.out.setNew (i := 0) (u := .int .i64 2048) HP.out AB.out).still TL.out)
          have BX4 := hid ((TL.out.block p (lt_of_block BX2.out) id).trans BX2.out)
          have RG4 := hid ((RG.out.kept (((Touch.refl (fun k => k = p) wr).setCell (p := ⟨p, 0, none⟩) (fun _ => rfl) (.int .i64 2048))) (fun b o' hab _ hS => by
            have e1 := NB.out b o' hab
            omega)).new TL.out)
          clear AR TL RG
          go_wp2
          go_roundg gk
          case measure => omega
          case rel => exact ⟨2, by omega, by first | rfl | go_num, .inr ⟨show x < 2048 by have := BL.out; omega, BX4.out, v3, a3, c3, O4.out, RG4.out, NB.out⟩⟩
      · rcases ST.out with hA | hB
        · have AL := hid (show 2048 ≤ x from hA.le)
          have AB := hid hA.box
          have AR := hid hA.rows
          clear ST hA
          have c0 : wr.cell? ⟨p, 0, none⟩ = some (.int .i64 (x : Nat)) := by simp [World.cell?, AB.out]
          have c1 : wr.cell? ⟨p, 1, none⟩ = some (.int .i64 (x : Nat)) := by simp [World.cell?, AB.out]
          have cf : ∀ j, wr.frozen? ⟨p, j, none⟩ = false := by intro j; simp [World.frozen?, AB.out]
          have lp := lt_of_block AB.out
          have hix : (Instr.index 80 (.agg bordC) (.int .i64 2)).run Tryd.prog wr = .ok (.int .i64 65536) wr := run_index80 2 65536 wr (by decide) rfl
          by_cases hlt : x < 65536
          · have hmin : min (x : Int) 65535 = (x : Int) := by omega
            have hmax : max (x : Int) 65536 = 65536 := by omega
            have TL := hid ((Touch.refl (fun _ => False) wr).alloc (.cells #[.int .i64 (x : Nat), .int .i64 (x : Nat)] 38))
            have A2 := hid (AR.out.still TL.out)
            have KK := hid (KC.out 2 (by decide) (wr.alloc (.cells #[.int .i64 (x : Nat), .int .i64 (x : Nat)] 38)) A2.out.now)
            have BX2 := hid ((TL.out.block p lp id).trans AB.out)
            have LP2 := hid (show p < (wr.alloc (.cells #[.int .i64 (x : Nat), .int .i64 (x : Nat)] 38)).heap.size from lt_of_block BX2.out)
            go_wp2_with fail
            generalize (wr.alloc (.cells #[.int .i64 (x : Nat), .int .i64 (x : Nat)] 38)) = w2 at *
            refine KK.out.mono ?_
            rintro e w3 ⟨rfl, v3, a3, c3, hrb, hrg, hnb⟩
            have O3 := hid (A2.out.back hrb)
            have BX3 := hid ((hrb.touch.block p LP2.out (A2.out.apart BX2.out)).trans BX2.out)
            have RG := hid hrg
            have NB := hid hnb
            clear hrb hrg hnb KK c0 c1 cf AB AR A2 TL BX2
            have d0 : w3.cell? ⟨p, 0, none⟩ = some (.int .i64 (x : Nat)) := by simp [World.cell?, BX3.out]
            have df : ∀ j, w3.frozen? ⟨p, j, none⟩ = false := by intro j; simp [World.frozen?, BX3.out]
            have O4 := hid (O3.out.setNew (i := 0) (u := .int .i64 65536) HP.out BX3.out)
            have BX4 := hid (block_set BX3.out 0 (.int .i64 65536))
            have RG4 := hid (RG.out.kept (((Touch.refl (fun k => k = p) w3).setCell (p := ⟨p, 0, none⟩) (fun _ => rfl) (.int .i64 65536))) (fun b o' hab _ hS => by
              have e1 := NB.out b o' hab
              have e2 := LP2.out
              omega))
            have NB4 := hid (show ∀ b o', a3 = some ⟨b, o', none⟩ → p < b from fun b o' hab => by
              have e1 := NB.out b o' hab
              have e2 := LP2.out
              omega)
            clear O3 BX3 RG NB LP2
            go_wp2
            go_roundg gk
            case measure => omega
            case rel => exact ⟨3, by omega, by first | rfl | go_num, .inr ⟨hlt, BX4.out, v3, a3, c3, O4.out, RG4.out, NB4.out⟩⟩
          · have hmin : min (x : Int) 65535 = 65535 := by omega
            have hmax : max (x : Int) 65536 = (x : Int) := by omega
            have hgt : ¬ ((x : Int) ≤ 65535) := by omega
            have TL := hid ((Touch.refl (fun _ => False) (wr.setCell ⟨p, 0, none⟩ (.int .i64 (x : Nat)))).alloc (.cells #[.int .i64 (x : Nat), .int .i64 65535] 38))
            have BX2 := hid (block_set AB.out 0 (.int .i64 (x : Nat)))
            have O4 := hid ((AR.out.setNew (i := 0) (u := .int .i64 (x : Nat)) HP.out AB.out).still TL.out)
            have BX4 := hid ((TL.out.block p (lt_of_block BX2.out) id).trans BX2.out)
            clear AR TL
            go_wp2
            go_roundg gk
            case measure => omega
            case rel => exact ⟨3, by omega, by first | rfl | go_num, .inl ⟨show 65536 ≤ x by omega, BX4.out, O4.out⟩⟩
        · have BL := hid (show x < 2048 from hB.lt)
          have AB := hid (show wr.heap[p]? = some (.cells #[.int .i64 2048, .int .i64 (x : Nat)] 38 (0, 0)) from hB.box)
          obtain ⟨v3, a3, c3, hrb, hrg, hnb⟩ := hB.rows
          have AR := hid hrb
          have RG := hid hrg
          have NB := hid hnb
          clear ST hB hrb hrg hnb
          have c0 : wr.cell? ⟨p, 0, none⟩ = some (.int .i64 2048) := by simp [World.cell?, AB.out]
          have c1 : wr.cell? ⟨p, 1, none⟩ = some (.int .i64 (x : Nat)) := by simp [World.cell?, AB.out]
          have cf : ∀ j, wr.frozen? ⟨p, j, none⟩ = false := by intro j; simp [World.frozen?, AB.out]
          have lp := lt_of_block AB.out
          have hix : (Instr.index 80 (.agg bordC) (.int .i64 2)).run Tryd.prog wr = .ok (.int .i64 65536) wr := run_index80 2 65536 wr (by decide) rfl
          have hmin : min (x : Int) 65535 = (x : Int) := by have := BL.out; omega
          have hgt : ¬ ((2048 : Int) ≤ (x : Int)) := by have := BL.out; omega
          have hmax : max (2048 : Int) 65536 = 65536 := by omega
          have TL := hid ((Touch.refl (fun _ => False) (wr.setCell ⟨p, 0, none⟩ (.int .i64 65536))).alloc (.cells #[.int .i64 2048, .int .i64 (x : Nat)] 38))
          have BX2 := hid (block_set AB.out 0 (.int .i64 65536))
          have O4 := hid ((AR.out.setNew (i := 0) (u := .int .i64 65536) HP.out AB.out).still TL.out)
          have BX4 := hid ((TL.out.block p (lt_of_block BX2.out) id).trans BX2.out)
          have RG4 := hid ((RG.out.kept (((Touch.refl (fun k => k = p) wr).setCell (p := ⟨p, 0, none⟩) (fun _ => rfl) (.int .i64 65536))) (fun b o' hab _ hS => by
            have e1 := NB.out b o' hab
            omega)).new TL.out)
          clear AR TL RG
          go_wp2
          go_roundg gk
          case measure => omega
          case rel => exact ⟨3, by omega, by first | rfl | go_num, .inr ⟨show x < 65536 by have := BL.out; omega, BX4.out, v3, a3, c3, O4.out, RG4.out, NB.out⟩⟩
      · rcases ST.out with hA | hB
        · have AL := hid (show 65536 ≤ x from hA.le)
          have AB := hid hA.box
          have AR := hid hA.rows
          clear ST hA
          have c0 : wr.cell? ⟨p, 0, none⟩ = some (.int .i64 (x : Nat)) := by simp [World.cell?, AB.out]
          have c1 : wr.cell? ⟨p, 1, none⟩ = some (.int .i64 (x : Nat)) := by simp [World.cell?, AB.out]
          have cf : ∀ j, wr.frozen? ⟨p, j, none⟩ = false := by intro j; simp [World.frozen?, AB.out]
          have lp := lt_of_block AB.out
          have hix : (Instr.index 80 (.agg bordC) (.int .i64 3)).run Tryd.prog wr = .ok (.int .i64 1114112) wr := run_index80 3 1114112 wr (by decide) rfl
          by_cases hlt : x < 1114112
          · have hmin : min (x : Int) 1114111 = (x : Int) := by omega
            have hmax : max (x : Int) 1114112 = 1114112 := by omega
            have TL := hid ((Touch.refl (fun _ => False) wr).alloc (.cells #[.int .i64 (x : Nat), .int .i64 (x : Nat)] 38))
            have A2 := hid (AR.out.still TL.out)
            have KK := hid (KC.out 3 (by decide) (wr.alloc (.cells #[.int .i64 (x : Nat), .int .i64 (x : Nat)] 38)) A2.out.now)
            have BX2 := hid ((TL.out.block p lp id).trans AB.out)
            have LP2 := hid (show p < (wr.alloc (.cells #[.int .i64 (x : Nat), .int .i64 (x : Nat)] 38)).heap.size from lt_of_block BX2.out)
            go_wp2_with fail
            generalize (wr.alloc (.cells #[.int .i64 (x : Nat), .int .i64 (x : Nat)] 38)) = w2 at *
            refine KK.out.mono ?_
            rintro e w3 ⟨rfl, v3, a3, c3, hrb, hrg, hnb⟩
            have O3 := hid (A2.out.back hrb)
            have BX3 := hid ((hrb.touch.block p LP2.out (A2.out.apart BX2.out)).trans BX2.out)
            have RG := hid hrg
            have NB := hid hnb
            clear hrb hrg hnb KK c0 c1 cf AB AR A2 TL BX2
            have d0 : w3.cell? ⟨p, 0, none⟩ = some (.int .i64 (x : Nat)) := by simp [World.cell?, BX3.out]
            have df : ∀ j, w3.frozen? ⟨p, j, none⟩ = false := by intro j; simp [World.frozen?, BX3.out]
            have O4 := hid (O3.out.setNew (i := 0) (u := .int .i64 1114112) HP.out BX3.out)
            have BX4 := hid (block_set BX3.out 0 (.int .i64 1114112))
            have RG4 := hid (RG.out.kept (((Touch.refl (fun k => k = p) w3).setCell (p := ⟨p, 0, none⟩) (fun _ => rfl) (.int .i64 1114112))) (fun b o' hab _ hS => by
              have e1 := NB.out b o' hab
              have e2 := LP2.out
              omega))
            have NB4 := hid (show ∀ b o', a3 = some ⟨b, o', none⟩ → p < b from fun b o' hab => by
              have e1 := NB.out b o' hab
              have e2 := LP2.out
              omega)
            clear O3 BX3 RG NB LP2
            go_wp2
            go_roundg gk
            case measure => omega
            case rel => exact ⟨4, by omega, by first | rfl | go_num, .inr ⟨hlt, BX4.out, v3, a3, c3, O4.out, RG4.out, NB4.out⟩⟩
          · omega
        · have BL := hid (show x < 65536 from hB.lt)
          have AB := hid (show wr.heap[p]? = some (.cells #[.int .i64 65536, .int .i64 (x : Nat)] 38 (0, 0)) from hB.box)
          obtain ⟨v3, a3, c3, hrb, hrg, hnb⟩ := hB.rows
          have AR := hid hrb
          have RG := hid hrg
          have NB := hid hnb
          clear ST hB hrb hrg hnb
          have c0 : wr.cell? ⟨p, 0, none⟩ = some (.int .i64 65536) := by simp [World.cell?, AB.out]
          have c1 : wr.cell? ⟨p, 1, none⟩ = some (.int .i64 (x : Nat)) := by simp [World.cell?, AB.out]
          have cf : ∀ j, wr.frozen? ⟨p, j, none⟩ = false := by intro j; simp [World.frozen?, AB.out]
          have lp := lt_of_block AB.out
          have hix : (Instr.index 80 (.agg bordC) (.int .i64 3)).run Tryd.prog wr = .ok (.int .i64 1114112) wr := run_index80 3 1114112 wr (by decide) rfl
          have hmin : min (x : Int) 1114111 = (x : Int) := by have := BL.out; omega
          have hgt : ¬ ((65536 : Int) ≤ (x : Int)) := by have := BL.out; omega
          have hmax : max (65536 : Int) 1114112 = 1114112 := by omega
          have TL := hid ((Touch.refl (fun _ => False) (wr.setCell ⟨p, 0, none⟩ (.int .i64 1114112))).alloc (.cells #[.int .i64 65536, .int .i64 (x : Nat)] 38))
          have BX2 := hid (block_set AB.out 0 (.int .i64 1114112))
          have O4 := hid ((AR.out.setNew (i := 0) (u := .int .i64 1114112) HP.out AB.out).still TL.out)
          have BX4 := hid ((TL.out.block p (lt_of_block BX2.out) id).trans BX2.out)
          have RG4 := hid ((RG.out.kept (((Touch.refl (fun k => k = p) wr).setCell (p := ⟨p, 0, none⟩) (fun _ => rfl) (.int .i64 1114112))) (fun b o' hab _ hS => by
            have e1 := NB.out b o' hab
            omega)).new TL.out)
          clear AR TL RG
          go_wp2
          go_roundg gk
          case measure => omega
          case rel => exact ⟨4, by omega, by first | rfl | go_num, .inr ⟨show x < 1114112 by have := BL.out; omega, BX4.out, v3, a3, c3, O4.out, RG4.out, NB.out⟩⟩
    · obtain rfl : i = 4 := by omega
      rcases ST.out with hA | hB
      · have := hA.le
        have h5 : (1114112 : Nat) ≤ x := this
        omega
      · obtain ⟨v', a, c, h1, h2, h3⟩ := hB.rows
        have F1 := hid h1
        have F2 := hid h2
        have F3 := hid (show ∀ b o', a = some ⟨b, o', none⟩ → w.heap.size ≤ b from fun b o' hab => by
          have e1 := h3 b o' hab
          have e2 := HP.out
          omega)
        clear h1 h2 h3 hB ST
        go_wp2
        refine bodyPost_end (results_none rfl _ _ _) rfl ?_
        exact ⟨rfl, v', a, c, F1.out, F2.out, F3.out⟩
end Go.Proofs.YtmokfheckngfiaaDoor
