/- Texts of this proof, one behind the other: what each says stands ahead of it. -/
import Derived.Test.YtnohikoeaepfpaaDoorM4
import Derived.Test.YtnohikoeaepfpaaDoorM3
/- Expand of templates; conditions: pieces and notes lie in memory, what is told is of at most 1048576 bytes. -/
namespace Go.Proofs.YtnohikoeaepfpaaDoor
open Go.RowKit
open Go.Lib
open Go.Shelf

theorem builderX : Builder.Extra Tryd.prog Tryd.lays169_ren :=
  { sizeBuilder := by kernel_rfl, liesBuilder := by kernel_rfl, t5 := Tryd.underlying5, a5 := Tryd.isAgg5, z5 := Tryd.sizeOf5, v5 := Tryd.zeroValue5, infoByte := by kernel_rfl, cellsByte := by kernel_rfl, sizeByte := by kernel_rfl, neB5 := by decide }
theorem string_any (B b : Nat) (l : List UInt8) (w : World) (h : Hd B b l w) (hB : B ≤ w.heap.size) :
    Calls Tryd.prog 16 #[.pointer (some ⟨b, 0, none⟩)] w fun e w' => e = .returned (.string ⟨l.toArray⟩) ∧ Below B w w' :=
  Any.Builder_String_any Tryd.lays169 builderX B b l w h hB

theorem lt_of_hd {B b : Nat} {l : List UInt8} {w : World} (h : Hd B b l w) : B ≤ b ∧ b < w.heap.size := by
  rcases h with ⟨h1, v, h2, _⟩ | ⟨h1, v, h2, _⟩
  · exact ⟨h1, lt_of_block h2⟩
  · exact ⟨h1, lt_of_block h2⟩
/-- Numbers in memory. -/
def Il (w : World) (v : Value) (zs : List Int) : Prop :=
  ∃ a c, v = .slice a zs.length c ∧ (zs = [] ∨ ∃ b o, a = some ⟨b, o, none⟩ ∧ b < w.heap.size ∧ ∀ j (h : j < zs.length), w.cell? ⟨b, o + j, none⟩ = some (.int .i64 zs[j]))
theorem Il.new {w w' : World} {v : Value} {ns : List Int} (h : Il w v ns) (t : Touch (fun _ => False) w w') : Il w' v ns := by
  obtain ⟨a, c, rfl, h⟩ := h
  refine ⟨a, c, rfl, ?_⟩
  rcases h with h | ⟨b, o, rfl, hb, hc⟩
  · exact .inl h
  · refine .inr ⟨b, o, rfl, Nat.lt_of_lt_of_le hb t.size, fun j hj => ?_⟩
    rw [t.cell (p := ⟨b, o + j, none⟩) hb id]
    exact hc j hj
/-- What stands for a piece. -/
def toldP (cs : Bs) (zs : List Int) (x : Pc) : Bs :=
  if x.g < 0 then x.t else if ((zs.length / 2 : Nat) : Int) ≤ x.g then [] else
  if zs[2 * x.g.toNat]?.getD 0 < 0 ∨ zs[2 * x.g.toNat + 1]?.getD 0 < zs[2 * x.g.toNat]?.getD 0 ∨ (cs.length : Int) < zs[2 * x.g.toNat + 1]?.getD 0 then []
  else (cs.drop (zs[2 * x.g.toNat]?.getD 0).toNat).take ((zs[2 * x.g.toNat + 1]?.getD 0).toNat - (zs[2 * x.g.toNat]?.getD 0).toNat)
set_option maxRecDepth 100000 in
set_option maxHeartbeats 4000000 in
theorem told_any (x : Pc) (s : ByteArray) (v : Value) (zs : List Int) (w : World) (hI : Il w v zs) (hz : zs.length ≤ 140737488355328) :
    Calls Tryd.prog 15 #[.agg #[sv x.t, gv x.g], .string s, v] w fun e w' => e = .returned (sv (toldP s.data.toList zs x)) ∧ Touch (fun _ => False) w w' := by
  have T0 := hid ((Touch.refl (fun _ => False) w).alloc (.cells #[sv x.t, gv x.g] 35))
  have FB0 := hid (two_new (w := w) (sv x.t) (gv x.g) 35)
  have I0 := hid (hI.new T0.out)
  obtain ⟨a, c, rfl, _⟩ := hI
  unfold toldP
  by_cases hg : x.g < 0
  · rw [if_pos hg]
    clear I0
    obtain ⟨t, g⟩ := x
    unfold sv gv at *
    dsimp only at hg FB0 T0 ⊢
    go_enter Tryd.func15, Tryd.ntmps15
    go_wp2
    go_ret
    exact ⟨rfl, T0.out⟩
  · rw [if_neg hg]
    obtain ⟨n, hn⟩ : ∃ n : Nat, x.g = (n : Int) := ⟨x.g.toNat, by omega⟩
    rw [hn, Int.toNat_natCast]
    by_cases h2 : ((zs.length / 2 : Nat) : Int) ≤ (n : Int)
    · rw [if_pos h2]
      have h2I : (zs.length : Int) / 2 ≤ (n : Int) := by omega
      have hn0 : ¬ (n : Int) < 0 := by omega
      clear I0
      rw [hn] at FB0 T0
      clear h2 hg hn
      obtain ⟨t, g⟩ := x
      unfold sv gv at *
      dsimp only at FB0 T0 ⊢
      go_enter Tryd.func15, Tryd.ntmps15
      go_wp2
      go_ret
      exact ⟨rfl, T0.out⟩
    · rw [if_neg h2]
      have hlt1 : 2 * n + 1 < zs.length := by omega
      have hlt0 : 2 * n < zs.length := by omega
      have h2I : ¬ (zs.length : Int) / 2 ≤ (n : Int) := by omega
      have hn0 : ¬ (n : Int) < 0 := by omega
      rw [List.getElem?_eq_getElem hlt0, List.getElem?_eq_getElem hlt1, Option.getD_some, Option.getD_some]
      obtain ⟨b, o, rfl, hb, hc⟩ : ∃ b o, a = some ⟨b, o, none⟩ ∧ b < (w.alloc (.cells #[sv x.t, gv x.g] 35)).heap.size ∧ ∀ j (h : j < zs.length), (w.alloc (.cells #[sv x.t, gv x.g] 35)).cell? ⟨b, o + j, none⟩ = some (.int .i64 zs[j]) := by
        obtain ⟨a', c', e, h⟩ := I0.out
        cases e
        rcases h with h | h
        · rw [h] at hlt0; simp at hlt0
        · exact h
      have c0 := hc (2 * n) hlt0
      have c1 := hc (2 * n + 1) hlt1
      generalize zs[2 * n] = f at *
      generalize zs[2 * n + 1] = e at *
      rw [hn] at FB0 T0 c0 c1
      rw [size_list]
      have hl0I : 2 * (n : Int) < (zs.length : Int) := by omega
      have hl1I : 2 * (n : Int) + 1 < (zs.length : Int) := by omega
      clear h2 hg hn I0 hc hb hlt0 hlt1
      obtain ⟨t, g⟩ := x
      unfold sv gv at FB0 T0 c0 c1
      dsimp only at FB0 T0 c0 c1 ⊢
      obtain ⟨R, hR⟩ : ∃ R, R = sv (if f < 0 ∨ e < f ∨ (s.size : Int) < e then [] else (s.data.toList.drop f.toNat).take (e.toNat - f.toNat)) := ⟨_, rfl⟩
      rw [← hR]
      have HR := hid hR
      clear hR
      unfold sv gv
      go_enter Tryd.func15, Tryd.ntmps15
      go_wp2
      have d0 := cell_two0 FB0.out
      have d1 := cell_two1 FB0.out
      generalize w.alloc (.cells #[.string ⟨t.toArray⟩, .int .i64 (n : Int)] 35) = w0 at *
      generalize w.heap.size = q at *
      clear FB0
      go_quiet (fail)
      by_cases hf : f < 0
      · rw [if_pos (.inl hf)] at HR
        go_wp2
        go_ret
        exact ⟨by rw [HR.out]; rfl, T0.out.drewN _⟩
      · by_cases hef : e < f
        · rw [if_pos (.inr (.inl hef))] at HR
          go_wp2
          go_ret
          exact ⟨by rw [HR.out]; rfl, T0.out.drewN _⟩
        · by_cases hes : (s.size : Int) < e
          · rw [if_pos (.inr (.inr hes))] at HR
            go_wp2
            go_ret
            exact ⟨by rw [HR.out]; rfl, T0.out.drewN _⟩
          · rw [if_neg (fun h => h.elim hf (fun h => h.elim hef hes))] at HR
            obtain ⟨f', rfl⟩ : ∃ f' : Nat, f = (f' : Int) := ⟨f.toNat, by omega⟩
            obtain ⟨e', rfl⟩ : ∃ e' : Nat, e = (e' : Int) := ⟨e.toNat, by omega⟩
            rw [Int.toNat_natCast, Int.toNat_natCast, ← ext_list] at HR
            have h1 : (f' : Int) ≤ (e' : Int) := by omega
            have h2 : (e' : Int) ≤ (s.size : Int) := by omega
            go_wp2
            go_ret
            exact ⟨by rw [HR.out]; rfl, T0.out.drewN _⟩

/-- Pieces expanded. -/
def expP (cs : Bs) (zs : List Int) (l : List Pc) : Bs := l.flatMap (toldP cs zs)
theorem expP_take (cs : Bs) (zs : List Int) (l : List Pc) (i : Nat) (h : i < l.length) : expP cs zs (l.take (i + 1)) = expP cs zs (l.take i) ++ toldP cs zs l[i] := by
  unfold expP
  rw [List.take_succ_eq_append_getElem h, List.flatMap_append]
  simp
theorem expP_le (cs : Bs) (zs : List Int) (l : List Pc) (i : Nat) : (expP cs zs (l.take i)).length ≤ (expP cs zs l).length := by
  have : expP cs zs l = expP cs zs (l.take i) ++ expP cs zs (l.drop i) := by
    unfold expP
    rw [← List.flatMap_append, List.take_append_drop]
  rw [this, List.length_append]
  omega
theorem Touch.down {w a b : World} {B : Nat} (h : Touch (fun _ => False) w a) (k : Below B a b) (hB : w.heap.size ≤ B) : Touch (fun _ => False) w b :=
  h.trans (touch_of_below k) (fun i hi e => by omega)
set_option maxRecDepth 100000 in
set_option maxHeartbeats 4000000 in
theorem expand_any (l : List Pc) (s : ByteArray) (v : Value) (zs : List Int) (w : World) (al : Option Addr) (cl : Nat) (hR : Rg w al l) (hI : Il w v zs) (hl : l.length ≤ 140737488355328) (hz : zs.length ≤ 140737488355328) (hlen : (expP s.data.toList zs l).length ≤ 1048576) :
    Calls Tryd.prog 8 #[.slice al l.length cl, .string s, v] w fun e w' => e = .returned (sv (expP s.data.toList zs l)) ∧ Touch (fun _ => False) w w' := by
  have HH := hid (Hd.new w)
  have T0 := hid ((Touch.refl (fun _ => False) w).alloc (.cells #[.pointer none, .slice none 0 0] 48))
  have RG := hid hR
  have IG := hid hI
  clear hR
  obtain ⟨a, c, rfl, _⟩ := hI
  have HLN := hid hlen
  clear hlen
  go_enter Tryd.func8, Tryd.ntmps8
  go_wp2_with fail
  generalize w.alloc (.cells #[.pointer none, .slice none 0 0] 48) = w0 at *
  obtain ⟨q, hq⟩ : ∃ q, q = w.heap.size := ⟨_, rfl⟩
  rw [← hq] at HH ⊢
  have HQ := hid (show w.heap.size ≤ q from by omega)
  clear hq
  go_loopg [12] l.length (fun gk v12 wr => ∃ k : Nat, k + gk = l.length ∧ v12 = .int .i64 (k : Nat) ∧ Hid (Hd q q (expP s.data.toList zs (l.take k)) wr) ∧ Hid (Touch (fun _ => False) w wr))
  case atStart => exact ⟨0, by omega, rfl, hid HH.out, T0⟩
  case round =>
    obtain ⟨k, hk, rfl, HB, TW⟩ := hrel
    by_cases hlt : k < l.length
    · obtain ⟨b, o, rfl, hb, hc⟩ : ∃ b o, al = some ⟨b, o, none⟩ ∧ b < wr.heap.size ∧ ∀ i (h : i < l.length), wr.cell? ⟨b, o + i * 2, none⟩ = some (sv (l[i]).t) ∧ wr.cell? ⟨b, o + i * 2 + 1, none⟩ = some (gv (l[i]).g) := by
        rcases RG.out.new TW.out with h | h
        · rw [h] at hlt; simp at hlt
        · exact h
      obtain ⟨d0, d1⟩ := hc k hlt
      have HT := hid (expP_take s.data.toList zs l k hlt)
      have HLE := hid (expP_le s.data.toList zs l (k + 1))
      obtain ⟨x, hx⟩ : ∃ x, x = l[k] := ⟨_, rfl⟩
      rw [← hx] at d0 d1 HT
      clear hc hx hb
      have hltI : (k : Int) < (l.length : Int) := by omega
      unfold sv at d0
      unfold gv at d1
      obtain ⟨xt, xg⟩ := x
      dsimp only at d0 d1
      have TA := hid ((Touch.refl (fun _ => False) wr).alloc (.cells #[.string ⟨xt.toArray⟩, .int .i64 xg] 35))
      have B9 := hid (two_new (w := wr) (.string ⟨xt.toArray⟩) (.int .i64 xg) 35)
      go_upto_region 5 with fail
      generalize wr.alloc (.cells #[.string ⟨xt.toArray⟩, .int .i64 xg] 35) = w1 at *
      have HB1 := hid (HB.out.still TA.out)
      have T1 := hid (TW.out.trans TA.out (fun _ _ e => e))
      clear d0 d1 HB TW TA
      generalize wr.heap.size = q9 at *
      have d0 := cell_two0 B9.out
      have d1 := cell_two1 B9.out
      have KT := hid (told_any ⟨xt, xg⟩ s _ zs w1 (IG.out.new T1.out) hz)
      unfold sv gv at KT
      dsimp only at KT
      go_wp2_with fail
      refine KT.out.mono ?_
      rintro e w2 ⟨rfl, t2⟩
      have T2 := hid (T1.out.trans t2 (fun _ _ e => e))
      have HB2 := hid (HB1.out.still t2)
      clear KT t2 T1 HB1 d0 d1 B9
      have hsz : (⟨(toldP s.data.toList zs ⟨xt, xg⟩).toArray⟩ : ByteArray).size = (toldP s.data.toList zs ⟨xt, xg⟩).length := by
        show (toldP s.data.toList zs ⟨xt, xg⟩).toArray.size = _
        simp
      have KW := hid (writeString_any q q _ ⟨(toldP s.data.toList zs ⟨xt, xg⟩).toArray⟩ w2 HB2.out (by
        have h1 := HLN.out
        have h2 := HLE.out
        rw [HT.out, List.length_append] at h2
        rw [hsz]
        omega) (by have := lt_of_hd HB2.out; omega))
      clear hsz
      go_wp2_with fail
      refine KW.out.mono ?_
      rintro e w3 ⟨rfl, hd3, b3, _⟩
      have T3 := hid (T2.out.down b3 HQ.out)
      have HB3 := hid hd3
      clear KW hd3 b3 T2 HB2
      go_wp2
      go_roundg (gk - 1)
      case measure => omega
      case rel => exact ⟨k + 1, by omega, by go_num, hid (by rw [HT.out]; exact HB3.out), T3⟩
    · obtain rfl : k = l.length := by omega
      rw [List.take_length] at HB
      have KS := hid (string_any q q _ wr HB.out (by have := lt_of_hd HB.out; omega))
      go_wp2_with fail
      refine KS.out.mono ?_
      rintro e w1 ⟨rfl, b1⟩
      have T1 := hid (TW.out.down b1 HQ.out)
      clear b1 KS
      go_wp2
      go_ret
      exact ⟨rfl, T1.out⟩
end Go.Proofs.YtnohikoeaepfpaaDoor

/- Templates: that the program speaks; condition: the errors' values lie there. -/
namespace Go.Proofs.YtnohikoeaepfpaaDoor
open Go.RowKit
open Go.Lib

def spL : List Pc := [⟨[60], -1⟩, ⟨[], 1⟩, ⟨[36, 62], -1⟩]
theorem sp_parse : parseP [[], []] [60, 36, 49, 36, 36, 62] = (spL, 0, 0) := rfl
theorem sp_exp : expP [97, 98] [0, 2, 1, 2] spL = [60, 98, 36, 62] := rfl
theorem OwE.low {W0 W1 wr : World} {e : TypeId} {v : Value} {s : List Pc} (h : OwE W1 wr e v s) (t : Touch (fun _ => False) W0 W1) : OwE W0 wr e v s :=
  ⟨h.own, fun g hg => by have := h.new g hg; have := t.size; omega, t.trans h.touch (fun _ _ e => e)⟩
set_option maxRecDepth 100000 in
set_option maxHeartbeats 4000000 in
theorem speaks_yes (w : World) (hx : Sx w) : Calls Tryd.prog 6 #[] w fun e w' => e = .returned (.bool true) ∧ Touch (fun _ => False) w w' := by
  have T0 := hid ((Touch.refl (fun _ => False) w).alloc (.cells #[.string ⟨#[]⟩, .string ⟨#[]⟩] 9))
  have B0 := hid (two_new (w := w) (.string ⟨#[]⟩) (.string ⟨#[]⟩) 9)
  have X0 := hid (hx.new T0.out)
  clear hx
  go_enter Tryd.func6, Tryd.ntmps6
  go_wp2_with fail
  generalize w.alloc (.cells #[.string ⟨#[]⟩, .string ⟨#[]⟩] 9) = w0 at *
  generalize w.heap.size = q at *
  have N0 := hid (show Nl w0 (.slice (some ⟨q, 0, none⟩) 2 2) [[], []] from ⟨_, _, rfl, .inr ⟨q, 0, rfl, lt_of_block B0.out, fun j hj => by
    have hj' : j < 2 := hj
    match j, hj' with
    | 0, _ => exact cell_two0 B0.out
    | 1, _ => exact cell_two1 B0.out⟩⟩)
  have KP := hid (parse_any ⟨#[60, 36, 49, 36, 36, 62]⟩ _ [[], []] w0 (by decide) N0.out (by decide) X0.out)
  rw [show (⟨#[60, 36, 49, 36, 36, 62]⟩ : ByteArray).data.toList = [60, 36, 49, 36, 36, 62] from rfl, sp_parse] at KP
  dsimp only at KP
  refine KP.out.mono ?_
  rintro e w1 ⟨v1, rfl, ow1⟩
  have OW1 := hid (ow1.low T0.out)
  clear KP ow1 N0 B0 X0 T0
  obtain ⟨a1, c1, hv1, hr1⟩ := OW1.out.rg
  subst hv1
  have R1 := hid hr1
  clear hr1
  go_upto_region 2 with fail
  have OW2 := hid (OW1.out.still ((Touch.refl _ _).alloc (.cells #[.int .i64 0, .int .i64 0] 27)))
  have R2 := hid (R1.out.new ((Touch.refl _ _).alloc (.cells #[.int .i64 0, .int .i64 0] 27)))
  have F2 := hid (two_new (w := w1) (.int .i64 0) (.int .i64 0) 27)
  generalize w1.alloc (.cells #[.int .i64 0, .int .i64 0] 27) = w2 at *
  generalize w1.heap.size = q1 at *
  clear OW1 R1
  have f0 := cell_two0 F2.out
  have f1 := cell_two1 F2.out
  have T3 := hid (OW2.out.touch.alloc (.cells #[.int .i64 0, .int .i64 2, .int .i64 1, .int .i64 2] 3))
  have R3 := hid (R2.out.new ((Touch.refl _ _).alloc (.cells #[.int .i64 0, .int .i64 2, .int .i64 1, .int .i64 2] 3)))
  have B3 := hid (new_block w2 #[.int .i64 0, .int .i64 2, .int .i64 1, .int .i64 2] 3)
  go_wp2_with fail
  generalize w2.alloc (.cells #[.int .i64 0, .int .i64 2, .int .i64 1, .int .i64 2] 3) = w3 at *
  generalize w2.heap.size = q2 at *
  have I3 := hid (show Il w3 (.slice (some ⟨q2, 0, none⟩) 4 4) [0, 2, 1, 2] from ⟨_, _, rfl, .inr ⟨q2, 0, rfl, lt_of_block B3.out, fun j hj => by
    have hj' : j < 4 := hj
    have hb := B3.out
    match j, hj' with
    | 0, _ => simp [World.cell?, hb]
    | 1, _ => simp [World.cell?, hb]
    | 2, _ => simp [World.cell?, hb]
    | 3, _ => simp [World.cell?, hb]⟩⟩)
  have KE := hid (expand_any spL ⟨#[97, 98]⟩ _ [0, 2, 1, 2] w3 a1 c1 R3.out I3.out (by decide) (by decide) (by
    rw [show (⟨#[97, 98]⟩ : ByteArray).data.toList = [97, 98] from rfl, sp_exp]
    decide))
  rw [show (⟨#[97, 98]⟩ : ByteArray).data.toList = [97, 98] from rfl, sp_exp] at KE
  unfold sv at KE
  refine KE.out.mono ?_
  rintro e w4 ⟨rfl, t4⟩
  have T4 := hid (T3.out.trans t4 (fun _ _ e => e))
  clear KE t4
  go_wp2
  go_ret
  exact ⟨rfl, T4.out⟩
end Go.Proofs.YtnohikoeaepfpaaDoor

/- Lists of bytes that are the call's own; no condition. -/
namespace Go.Proofs.YtnohikoeaepfpaaDoor
open Go.RowKit
open Go.Lib

def bv (l : Bs) : List Value := l.map fun b => .int .u8 (b.toNat : Int)
structure OwB (W0 wr : World) (v : Value) (l : Bs) : Prop where
  own : wr.ownsRow 0 5 1 v l.length (bv l)
  new : ∀ g, v.ownBlock = some g → W0.heap.size ≤ g
  touch : Touch (fun _ => False) W0 wr
theorem OwB.nil (w : World) : OwB w w (.slice none 0 0) [] := ⟨World.ownsRow_nil _ _ _ _, by intro g h; simp [Value.ownBlock] at h, Touch.refl _ _⟩
theorem OwB.still {W0 wr w' : World} {v : Value} {s : Bs} (h : OwB W0 wr v s) (tc : Touch (fun _ => False) wr w') : OwB W0 w' v s := by
  refine ⟨⟨h.own.1, ?_⟩, h.new, h.touch.trans tc (fun _ _ e => e)⟩
  rcases h.own.2 with h0 | ⟨g, cap, cur, hv, hg, hh, rest⟩
  · exact .inl h0
  · exact .inr ⟨g, cap, cur, hv, hg, (tc.block g (lt_of_block hh) id).trans hh, rest⟩
theorem OwB.more {W0 wr w1 : World} {v v' : Value} {s : Bs} {c : UInt8} {o : Obj} {k : Nat} (h : OwB W0 wr v s) (hown : w1.ownsRow 0 5 1 v' (s.length + 1) (bv s ++ [.int .u8 (c.toNat : Int)])) (hg : (wr.alloc o).grownBy w1 v.ownBlock) (hat : v'.ownBlock = v.ownBlock ∨ v'.ownBlock = some k) (hk : wr.heap.size ≤ k) : OwB W0 w1 v' (s ++ [c]) := by
  refine ⟨?_, fun g hg' => ?_, (h.touch.alloc o).grown hg (fun k e hk => by have := h.new k e; omega)⟩
  · rw [List.length_append]
    have e : bv (s ++ [c]) = bv s ++ [.int .u8 (c.toNat : Int)] := by simp [bv]
    rw [e]
    exact hown
  · rcases hat with e | e
    · exact h.new g (by rw [← e]; exact hg')
    · rw [e] at hg'
      simp at hg'
      have := h.touch.size
      omega
theorem OwB.conv {W0 wr : World} {v : Value} {s : Bs} (h : OwB W0 wr v s) : (convert 23 9 v).run Tryd.prog wr = .ok (.string ⟨s.toArray⟩) wr := by
  have h2 := h.own.2
  rcases h2 with ⟨hv, h0⟩ | ⟨g, cap, cur, hv, hg, hh, rest⟩
  · obtain rfl : s = [] := List.eq_nil_of_length_eq_zero h0
    rw [hv, run_convert_bytes_string wr 23 9 5 none 0 0 Tryd.underlying23 Tryd.underlying5 Tryd.underlying9]
    rfl
  · rw [hv]
    refine run_convert_bytes_back wr 23 9 5 ⟨g, 0, none⟩ cap s Tryd.underlying23 Tryd.underlying5 Tryd.underlying9 (fun j hj => ?_)
    exact h.own.cells (g := g) (by rw [hv]; rfl) j _ (by unfold bv; rw [List.getElem?_map, List.getElem?_eq_getElem hj]; rfl)
theorem byte_new (w : World) (u : Value) : ∀ (j : Nat) (x : Value), [u][j]? = some x → (w.alloc (.cells #[u] 5)).cell? ((⟨w.heap.size, 0, none⟩ : Addr).add j) = some x := row_new w [u] 5
end Go.Proofs.YtnohikoeaepfpaaDoor

/- TemplPlain's walk; conditions: the text is of at most 1048576 bytes, the errors' values lie there. -/
namespace Go.Proofs.YtnohikoeaepfpaaDoor
open Go.RowKit
open Go.Lib

def dbl (cs : Bs) : Bs := cs.flatMap fun c => if c = 36 then [36, 36] else [c]
theorem dbl_snoc (cs : Bs) (c : UInt8) : dbl (cs ++ [c]) = dbl cs ++ (if c = 36 then [36, 36] else [c]) := by
  unfold dbl
  rw [List.flatMap_append]
  simp
theorem dbl_len : ∀ cs : Bs, (dbl cs).length ≤ 2 * cs.length
  | [] => Nat.le_refl _
  | c :: cs => by
    have ih := dbl_len cs
    have e : dbl (c :: cs) = (if c = 36 then [36, 36] else [c]) ++ dbl cs := rfl
    rw [e, List.length_append, List.length_cons]
    split <;> simp <;> omega
theorem len_dbl : ∀ cs : Bs, cs.length ≤ (dbl cs).length
  | [] => Nat.le_refl _
  | c :: cs => by
    have ih := len_dbl cs
    have e : dbl (c :: cs) = (if c = 36 then [36, 36] else [c]) ++ dbl cs := rfl
    rw [e, List.length_append, List.length_cons]
    split <;> simp <;> omega
theorem G_dbl (ns : List Bs) : ∀ (cs : Bs) (o : List Pc) (p : Bs) (k : Nat), G ns o p (dbl cs) k = .inl (nm o (p ++ cs))
  | [], o, p, k => by rw [List.append_nil]; rfl
  | c :: cs, o, p, k => by
    have e : dbl (c :: cs) = (if c = 36 then [36, 36] else [c]) ++ dbl cs := rfl
    rw [e]
    by_cases hc : c = 36
    · rw [if_pos hc]
      have h1 : tk1 ns ([36, 36] ++ dbl cs) = .text [36] 2 := by
        show tk1 ns (36 :: 36 :: dbl cs) = _
        rw [tk1, if_pos rfl]
        rfl
      rw [G_text h1]
      show G ns o (p ++ [36]) (dbl cs) (k + 2) = _
      rw [G_dbl ns cs, hc, List.append_assoc]
      rfl
    · rw [if_neg hc]
      have h1 : tk1 ns ([c] ++ dbl cs) = .text [c] 1 := by
        show tk1 ns (c :: dbl cs) = _
        rw [tk1, if_neg hc]
      rw [G_text h1]
      show G ns o (p ++ [c]) (dbl cs) (k + 1) = _
      rw [G_dbl ns cs, List.append_assoc]
      rfl
theorem parse_dbl (cs : Bs) (h : ¬ 1024 < (dbl cs).length) : parseP [] (dbl cs) = (nm [] cs, 0, 0) := by
  unfold parseP
  rw [if_neg h, G_dbl]
  rfl
theorem exp_nm (cs : Bs) : expP [] [] (nm [] cs) = cs := by
  unfold nm
  split
  · rename_i h; rw [h]; rfl
  · simp [expP, toldP]
theorem take_byte (s : ByteArray) (k : Nat) (h : k < s.size) : s.data.toList.take (k + 1) = s.data.toList.take k ++ [s[k]] :=
  List.take_succ_eq_append_getElem (by rw [size_list]; exact h)
theorem list_beq (s : ByteArray) : (s.toList == s.toList) = true := by simp
set_option maxRecDepth 100000 in
set_option maxHeartbeats 8000000 in
theorem templPlain_walk (s : ByteArray) (w : World) (hs : s.size ≤ 1048576) (hx : Sx w) :
    Calls Tryd.prog 3 #[.string s] w fun e w' => e = .returned (.bool true) ∧ Below w.heap.size w w' := by
  obtain ⟨i0, hi, hz0, hz1, hz2⟩ := info_parts info5
  have KS := hid (speaks_yes w hx)
  go_enter Tryd.func3, Tryd.ntmps3
  go_wp2_with fail
  refine KS.out.mono ?_
  rintro e w1 ⟨rfl, t1⟩
  have T1 := hid t1
  have X1 := hid (hx.new t1)
  clear t1 hx KS
  go_wp2_with fail
  go_loopg [3, 4] s.size (fun gk v3 v4 wr => ∃ k : Nat, k + gk = s.size ∧ v4 = .int .i64 (k : Nat) ∧ OwB w1 wr v3 (dbl (s.data.toList.take k)))
  case atStart => exact ⟨0, by omega, rfl, OwB.nil _⟩
  case round =>
    obtain ⟨k, hk, rfl, hown⟩ := hrel
    have OW := hid hown
    obtain ⟨a3, c3, hv3⟩ := own_shape hown.own
    subst hv3
    clear hown
    by_cases hlt : k < s.size
    · have hltI : (k : Int) < (s.size : Int) := by omega
      have HTK := hid (take_byte s k hlt)
      have hdl : (dbl (s.data.toList.take k)).length ≤ 2097152 := by
        have := dbl_len (s.data.toList.take k)
        rw [List.length_take] at this
        omega
      obtain ⟨c, hce⟩ : ∃ c, c = s[k] := ⟨_, rfl⟩
      have hcg : s[k] = c := hce.symm
      rw [hcg] at HTK
      clear hce
      have HD := hid (show dbl (s.data.toList.take (k + 1)) = dbl (s.data.toList.take k) ++ (if c = 36 then [36, 36] else [c]) from by rw [HTK.out, dbl_snoc])
      clear HTK
      generalize dbl (s.data.toList.take k) = d at *
      go_wp2_with (at_builtin; refine wpList_append_own_at _ rfl _ _ 23 rfl 0 5 i0 (.int .u8 0) 1 1 Tryd.underlying23 hi hz0 hz1 hz2 rfl (by decide) _ _ _ rfl (OW.out.own.alloc _) ⟨wr.heap.size, 0, none⟩ 1 1 [.int .u8 (c.toNat : Int)] rfl rfl (byte_new wr (.int .u8 (c.toNat : Int))) (by intro u hu; simp at hu; rw [hu]; rfl) (by unfold maxLen; omega) (by omega) (Nat.zero_le _) ?_)
      intro v4 w4 hown hgrow _ hat
      have OW4 := hid (OW.out.more (c := c) hown hgrow hat (by omega))
      obtain ⟨a4, c4, hv4⟩ := own_shape OW4.out.own
      subst hv4
      clear hown hgrow hat OW
      by_cases hc : c = 36
      · rw [if_pos hc] at HD
        have hcI : (c.toNat : Int) = 36 := by rw [hc]; rfl
        have hlen : (d ++ [c]).length ≤ 2097153 := by rw [List.length_append]; simp only [List.length_cons, List.length_nil]; omega
        have HD2 := hid (show dbl (s.data.toList.take (k + 1)) = (d ++ [c]) ++ [36] from by rw [HD.out, hc]; simp)
        clear HD
        generalize d ++ [c] = d2 at *
        go_wp2_with (at_builtin; refine wpList_append_own_at _ rfl _ _ 23 rfl 0 5 i0 (.int .u8 0) 1 1 Tryd.underlying23 hi hz0 hz1 hz2 rfl (by decide) _ _ _ rfl (OW4.out.own.alloc _) ⟨w4.heap.size, 0, none⟩ 1 1 [.int .u8 36] rfl rfl (byte_new w4 (.int .u8 36)) (by intro u hu; simp at hu; rw [hu]; rfl) (by unfold maxLen; omega) (by omega) (Nat.zero_le _) ?_)
        intro v5 w5 hown hgrow _ hat
        have OW5 := hid (OW4.out.more (c := 36) hown hgrow hat (by omega))
        clear hown hgrow hat OW4
        go_wp2
        go_roundg (gk - 1)
        case measure => omega
        case rel => exact ⟨k + 1, by omega, by go_num, by rw [HD2.out]; exact OW5.out⟩
      · rw [if_neg hc] at HD
        have hcI : ¬ (c.toNat : Int) = 36 := fun e => hc (UInt8.toNat_inj.1 (by
          have h36 : (36 : UInt8).toNat = 36 := rfl
          omega))
        clear hc
        go_wp2
        go_roundg (gk - 1)
        case measure => omega
        case rel => exact ⟨k + 1, by omega, by go_num, by rw [HD.out]; exact OW4.out⟩
    · obtain rfl : k = s.size := by omega
      have htk : s.data.toList.take s.size = s.data.toList := List.take_of_length_le (by rw [size_list]; exact Nat.le_refl _)
      rw [htk] at OW ⊢
      clear htk
      have hdl : (dbl s.data.toList).length ≤ 2097152 := by
        have := dbl_len s.data.toList
        rw [size_list] at this
        omega
      have hconv := OW.out.conv
      obtain ⟨S, hS⟩ : ∃ S : ByteArray, S = ⟨(dbl s.data.toList).toArray⟩ := ⟨_, rfl⟩
      rw [← hS] at hconv
      have hSl : S.data.toList = dbl s.data.toList := by rw [hS]
      have hSs : S.size = (dbl s.data.toList).length := by rw [← size_list, hSl]
      have KP := hid (parse_any S (.slice none 0 0) [] wr (by omega) ⟨none, 0, rfl, .inl rfl⟩ (by simp) (X1.out.new OW.out.touch))
      rw [hSl] at KP
      by_cases hbig : 1024 < (dbl s.data.toList).length
      · have e : parseP [] (dbl s.data.toList) = ([], 2, 0) := by unfold parseP; rw [if_pos hbig]
        rw [e] at KP
        dsimp only at KP
        generalize (dbl s.data.toList).length = L at *
        have hbI : (1024 : Int) < (L : Int) := by omega
        clear e hSl hS hSs
        go_wp2_with fail
        refine KP.out.mono ?_
        rintro e w5 ⟨v5, rfl, ow5⟩
        have TW := hid (T1.out.trans (OW.out.touch.trans ow5.touch (fun _ _ e => e)) (fun _ _ e => e))
        obtain ⟨a5, c5, hv5⟩ := own_shape ow5.own
        subst hv5
        clear KP ow5
        go_upto_region 11 with fail
        have TX := hid (TW.out.alloc (.cells #[.int .i64 2, .int .i64 0] 27))
        have F5 := hid (two_new (w := w5) (.int .i64 2) (.int .i64 0) 27)
        generalize w5.alloc (.cells #[.int .i64 2, .int .i64 0] 27) = w6 at *
        generalize w5.heap.size = q5 at *
        have f0 := cell_two0 F5.out
        have f1 := cell_two1 F5.out
        go_wp2
        go_ret
        exact ⟨rfl, TX.out.below _ (Nat.le_refl _) (fun _ e => e.elim)⟩
      · rw [parse_dbl _ hbig] at KP
        dsimp only at KP
        have hcl := len_dbl s.data.toList
        have HEX := hid (exp_nm s.data.toList)
        have hnl : (nm [] s.data.toList).length ≤ 1 := by
          unfold nm
          split <;> simp
        generalize nm [] s.data.toList = l at *
        generalize (dbl s.data.toList).length = L at *
        rw [size_list] at hcl
        have hbI : ¬ (1024 : Int) < (L : Int) := by omega
        clear hSl hS hSs
        go_wp2_with fail
        refine KP.out.mono ?_
        rintro e w5 ⟨v5, rfl, ow5⟩
        have TW := hid (T1.out.trans (OW.out.touch.trans ow5.touch (fun _ _ e => e)) (fun _ _ e => e))
        obtain ⟨a5, c5, hv5, hr5⟩ := ow5.rg
        subst hv5
        have R5 := hid hr5
        clear KP ow5 hr5
        go_upto_region 11 with fail
        have TX := hid (TW.out.alloc (.cells #[.int .i64 0, .int .i64 0] 27))
        have R6 := hid (R5.out.new ((Touch.refl _ _).alloc (.cells #[.int .i64 0, .int .i64 0] 27)))
        have F5 := hid (two_new (w := w5) (.int .i64 0) (.int .i64 0) 27)
        generalize w5.alloc (.cells #[.int .i64 0, .int .i64 0] 27) = w6 at *
        generalize w5.heap.size = q5 at *
        have f0 := cell_two0 F5.out
        have f1 := cell_two1 F5.out
        have hnlI : (l.length : Int) ≤ 1 := by omega
        have KE := hid (expand_any l ⟨#[]⟩ (.slice none 0 0) [] w6 a5 c5 R6.out ⟨none, 0, rfl, .inl rfl⟩ (by omega) (by simp) (by
          rw [show (⟨#[]⟩ : ByteArray).data.toList = [] from rfl, HEX.out, size_list]
          omega))
        rw [show (⟨#[]⟩ : ByteArray).data.toList = [] from rfl, HEX.out, sv_data] at KE
        go_wp2_with fail
        refine KE.out.mono ?_
        rintro e w7 ⟨rfl, t7⟩
        have T7 := hid (TX.out.trans t7 (fun _ _ e => e))
        clear KE t7
        have hbq := list_beq s
        go_wp2
        go_ret
        exact ⟨rfl, T7.out.below _ (Nat.le_refl _) (fun _ e => e.elim)⟩
end Go.Proofs.YtnohikoeaepfpaaDoor
