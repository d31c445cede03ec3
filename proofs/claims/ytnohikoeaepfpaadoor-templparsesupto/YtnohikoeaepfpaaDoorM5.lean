/- Texts of this proof, one behind the other: what each says stands ahead of it. -/
import Derived.Test.YtnohikoeaepfpaaDoorM4
import Derived.Test.YtnohikoeaepfpaaDoorM3
import Derived.Test.YtnohikoeaepfpaaDoorM1
import Derived.ChangeKeysEq
/- Expand of templates; conditions: pieces and notes lie in memory, what is told is of at most 1048576 bytes. -/
namespace Go.Proofs.YtnohikoeaepfpaaDoor
open Go.RowKit
open Go.Lib
open Go.Shelf

theorem builderX : Builder.Extra Tryd.prog Tryd.lays169_ren :=
  { sizeBuilder := by kernel_rfl, liesBuilder := by kernel_rfl, t5 := Tryd.underlying5, a5 := Tryd.isAgg5, z5 := Tryd.sizeOf5, v5 := Tryd.zeroValue5, infoByte := by kernel_rfl, cellsByte := by kernel_rfl, sizeByte := by kernel_rfl, neB5 := by decide }
theorem string_any (B b : Nat) (l : List UInt8) (w : World) (h : Hd B b l w) (hB : B ≤ w.heap.size) :
    Calls Tryd.prog 16 #[.pointer (some ⟨b, 0, none⟩)] w fun e w' => e = .returned (.string ⟨l.toArray⟩) ∧ Below B w w' :=
  Any.Builder_String_any Tryd.lays169 builderX B b l w h hB

theorem lt_of_hd {B b : Nat} {l : List UInt8} {w : World} (h : Hd B b l w) : B ≤ b ∧ b < w.heap.size := by
  rcases h with ⟨h1, v, h2, _⟩ | ⟨h1, v, h2, _⟩
  · exact ⟨h1, lt_of_block h2⟩
  · exact ⟨h1, lt_of_block h2⟩
/-- Numbers in memory. -/
def Il (w : World) (v : Value) (zs : List Int) : Prop :=
  ∃ a c, v = .slice a zs.length c ∧ (zs = [] ∨ ∃ b o, a = some ⟨b, o, none⟩ ∧ b < w.heap.size ∧ ∀ j (h : j < zs.length), w.cell? ⟨b, o + j, none⟩ = some (.int .i64 zs[j]))
theorem Il.new {w w' : World} {v : Value} {ns : List Int} (h : Il w v ns) (t : Touch (fun _ => False) w w') : Il w' v ns := by
  obtain ⟨a, c, rfl, h⟩ := h
  refine ⟨a, c, rfl, ?_⟩
  rcases h with h | ⟨b, o, rfl, hb, hc⟩
  · exact .inl h
  · refine .inr ⟨b, o, rfl, Nat.lt_of_lt_of_le hb t.size, fun j hj => ?_⟩
    rw [t.cell (p := ⟨b, o + j, none⟩) hb id]
    exact hc j hj
/-- What stands for a piece. -/
def toldP (cs : Bs) (zs : List Int) (x : Pc) : Bs :=
  if x.g < 0 then x.t else if ((zs.length / 2 : Nat) : Int) ≤ x.g then [] else
  if zs[2 * x.g.toNat]?.getD 0 < 0 ∨ zs[2 * x.g.toNat + 1]?.getD 0 < zs[2 * x.g.toNat]?.getD 0 ∨ (cs.length : Int) < zs[2 * x.g.toNat + 1]?.getD 0 then []
  else (cs.drop (zs[2 * x.g.toNat]?.getD 0).toNat).take ((zs[2 * x.g.toNat + 1]?.getD 0).toNat - (zs[2 * x.g.toNat]?.getD 0).toNat)
set_option maxRecDepth 100000 in
set_option maxHeartbeats 4000000 in
theorem told_any (x : Pc) (s : ByteArray) (v : Value) (zs : List Int) (w : World) (hI : Il w v zs) (hz : zs.length ≤ 140737488355328) :
    Calls Tryd.prog 15 #[.agg #[sv x.t, gv x.g], .string s, v] w fun e w' => e = .returned (sv (toldP s.data.toList zs x)) ∧ Touch (fun _ => False) w w' := by
  have T0 := hid ((Touch.refl (fun _ => False) w).alloc (.cells #[sv x.t, gv x.g] 35))
  have FB0 := hid (two_new (w := w) (sv x.t) (gv x.g) 35)
  have I0 := hid (hI.new T0.out)
  obtain ⟨a, c, rfl, _⟩ := hI
  unfold toldP
  by_cases hg : x.g < 0
  · rw [if_pos hg]
    clear I0
    obtain ⟨t, g⟩ := x
    unfold sv gv at *
    dsimp only at hg FB0 T0 ⊢
    go_enter Tryd.func15, Tryd.ntmps15
    go_wp2
    go_ret
    exact ⟨rfl, T0.out⟩
  · rw [if_neg hg]
    obtain ⟨n, hn⟩ : ∃ n : Nat, x.g = (n : Int) := ⟨x.g.toNat, by omega⟩
    rw [hn, Int.toNat_natCast]
    by_cases h2 : ((zs.length / 2 : Nat) : Int) ≤ (n : Int)
    · rw [if_pos h2]
      have h2I : (zs.length : Int) / 2 ≤ (n : Int) := by omega
      have hn0 : ¬ (n : Int) < 0 := by omega
      clear I0
      rw [hn] at FB0 T0
      clear h2 hg hn
      obtain ⟨t, g⟩ := x
      unfold sv gv at *
      dsimp only at FB0 T0 ⊢
      go_enter Tryd.func15, Tryd.ntmps15
      go_wp2
      go_ret
      exact ⟨rfl, T0.out⟩
    · rw [if_neg h2]
      have hlt1 : 2 * n + 1 < zs.length := by omega
      have hlt0 : 2 * n < zs.length := by omega
      have h2I : ¬ (zs.length : Int) / 2 ≤ (n : Int) := by omega
      have hn0 : ¬ (n : Int) < 0 := by omega
      rw [List.getElem?_eq_getElem hlt0, List.getElem?_eq_getElem hlt1, Option.getD_some, Option.getD_some]
      obtain ⟨b, o, rfl, hb, hc⟩ : ∃ b o, a = some ⟨b, o, none⟩ ∧ b < (w.alloc (.cells #[sv x.t, gv x.g] 35)).heap.size ∧ ∀ j (h : j < zs.length), (w.alloc (.cells #[sv x.t, gv x.g] 35)).cell? ⟨b, o + j, none⟩ = some (.int .i64 zs[j]) := by
        obtain ⟨a', c', e, h⟩ := I0.out
        cases e
        rcases h with h | h
        · rw [h] at hlt0; simp at hlt0
        · exact h
      have c0 := hc (2 * n) hlt0
      have c1 := hc (2 * n + 1) hlt1
      generalize zs[2 * n] = f at *
      generalize zs[2 * n + 1] = e at *
      rw [hn] at FB0 T0 c0 c1
      rw [size_list]
      have hl0I : 2 * (n : Int) < (zs.length : Int) := by omega
      have hl1I : 2 * (n : Int) + 1 < (zs.length : Int) := by omega
      clear h2 hg hn I0 hc hb hlt0 hlt1
      obtain ⟨t, g⟩ := x
      unfold sv gv at FB0 T0 c0 c1
      dsimp only at FB0 T0 c0 c1 ⊢
      obtain ⟨R, hR⟩ : ∃ R, R = sv (if f < 0 ∨ e < f ∨ (s.size : Int) < e then [] else (s.data.toList.drop f.toNat).take (e.toNat - f.toNat)) := ⟨_, rfl⟩
      rw [← hR]
      have HR := hid hR
      clear hR
      unfold sv gv
      go_enter Tryd.func15, Tryd.ntmps15
      go_wp2
      have d0 := cell_two0 FB0.out
      have d1 := cell_two1 FB0.out
      generalize w.alloc (.cells #[.string ⟨t.toArray⟩, .int .i64 (n : Int)] 35) = w0 at *
      generalize w.heap.size = q at *
      clear FB0
      go_quiet (fail)
      by_cases hf : f < 0
      · rw [if_pos (.inl hf)] at HR
        go_wp2
        go_ret
        exact ⟨by rw [HR.out]; rfl, T0.out.drewN _⟩
      · by_cases hef : e < f
        · rw [if_pos (.inr (.inl hef))] at HR
          go_wp2
          go_ret
          exact ⟨by rw [HR.out]; rfl, T0.out.drewN _⟩
        · by_cases hes : (s.size : Int) < e
          · rw [if_pos (.inr (.inr hes))] at HR
            go_wp2
            go_ret
            exact ⟨by rw [HR.out]; rfl, T0.out.drewN _⟩
          · rw [if_neg (fun h => h.elim hf (fun h => h.elim hef hes))] at HR
            obtain ⟨f', rfl⟩ : ∃ f' : Nat, f = (f' : Int) := ⟨f.toNat, by omega⟩
            obtain ⟨e', rfl⟩ : ∃ e' : Nat, e = (e' : Int) := ⟨e.toNat, by omega⟩
            rw [Int.toNat_natCast, Int.toNat_natCast, ← ext_list] at HR
            have h1 : (f' : Int) ≤ (e' : Int) := by omega
            have h2 : (e' : Int) ≤ (s.size : Int) := by omega
            go_wp2
            go_ret
            exact ⟨by rw [HR.out]; rfl, T0.out.drewN _⟩

/-- Pieces expanded. -/
def expP (cs : Bs) (zs : List Int) (l : List Pc) : Bs := l.flatMap (toldP cs zs)
theorem expP_take (cs : Bs) (zs : List Int) (l : List Pc) (i : Nat) (h : i < l.length) : expP cs zs (l.take (i + 1)) = expP cs zs (l.take i) ++ toldP cs zs l[i] := by
  unfold expP
  rw [List.take_succ_eq_append_getElem h, List.flatMap_append]
  simp
theorem expP_le (cs : Bs) (zs : List Int) (l : List Pc) (i : Nat) : (expP cs zs (l.take i)).length ≤ (expP cs zs l).length := by
  have : expP cs zs l = expP cs zs (l.take i) ++ expP cs zs (l.drop i) := by
    unfold expP
    rw [← List.flatMap_append, List.take_append_drop]
  rw [this, List.length_append]
  omega
theorem Touch.down {w a b : World} {B : Nat} (h : Touch (fun _ => False) w a) (k : Below B a b) (hB : w.heap.size ≤ B) : Touch (fun _ => False) w b :=
  h.trans (touch_of_below k) (fun i hi e => by omega)
set_option maxRecDepth 100000 in
set_option maxHeartbeats 4000000 in
theorem expand_any (l : List Pc) (s : ByteArray) (v : Value) (zs : List Int) (w : World) (al : Option Addr) (cl : Nat) (hR : Rg w al l) (hI : Il w v zs) (hl : l.length ≤ 140737488355328) (hz : zs.length ≤ 140737488355328) (hlen : (expP s.data.toList zs l).length ≤ 1048576) :
    Calls Tryd.prog 8 #[.slice al l.length cl, .string s, v] w fun e w' => e = .returned (sv (expP s.data.toList zs l)) ∧ Touch (fun _ => False) w w' := by
  have HH := hid (Hd.new w)
  have T0 := hid ((Touch.refl (fun _ => False) w).alloc (.cells #[.pointer none, .slice none 0 0] 48))
  have RG := hid hR
  have IG := hid hI
  clear hR
  obtain ⟨a, c, rfl, _⟩ := hI
  have HLN := hid hlen
  clear hlen
  go_enter Tryd.func8, Tryd.ntmps8
  go_wp2_with fail
  generalize w.alloc (.cells #[.pointer none, .slice none 0 0] 48) = w0 at *
  obtain ⟨q, hq⟩ : ∃ q, q = w.heap.size := ⟨_, rfl⟩
  rw [← hq] at HH ⊢
  have HQ := hid (show w.heap.size ≤ q from by omega)
  clear hq
  go_loopg [12] l.length (fun gk v12 wr => ∃ k : Nat, k + gk = l.length ∧ v12 = .int .i64 (k : Nat) ∧ Hid (Hd q q (expP s.data.toList zs (l.take k)) wr) ∧ Hid (Touch (fun _ => False) w wr))
  case atStart => exact ⟨0, by omega, rfl, hid HH.out, T0⟩
  case round =>
    obtain ⟨k, hk, rfl, HB, TW⟩ := hrel
    by_cases hlt : k < l.length
    · obtain ⟨b, o, rfl, hb, hc⟩ : ∃ b o, al = some ⟨b, o, none⟩ ∧ b < wr.heap.size ∧ ∀ i (h : i < l.length), wr.cell? ⟨b, o + i * 2, none⟩ = some (sv (l[i]).t) ∧ wr.cell? ⟨b, o + i * 2 + 1, none⟩ = some (gv (l[i]).g) := by
        rcases RG.out.new TW.out with h | h
        · rw [h] at hlt; simp at hlt
        · exact h
      obtain ⟨d0, d1⟩ := hc k hlt
      have HT := hid (expP_take s.data.toList zs l k hlt)
      have HLE := hid (expP_le s.data.toList zs l (k + 1))
      obtain ⟨x, hx⟩ : ∃ x, x = l[k] := ⟨_, rfl⟩
      rw [← hx] at d0 d1 HT
      clear hc hx hb
      have hltI : (k : Int) < (l.length : Int) := by omega
      unfold sv at d0
      unfold gv at d1
      obtain ⟨xt, xg⟩ := x
      dsimp only at d0 d1
      have TA := hid ((Touch.refl (fun _ => False) wr).alloc (.cells #[.string ⟨xt.toArray⟩, .int .i64 xg] 35))
      have B9 := hid (two_new (w := wr) (.string ⟨xt.toArray⟩) (.int .i64 xg) 35)
      go_upto_region 5 with fail
      generalize wr.alloc (.cells #[.string ⟨xt.toArray⟩, .int .i64 xg] 35) = w1 at *
      have HB1 := hid (HB.out.still TA.out)
      have T1 := hid (TW.out.trans TA.out (fun _ _ e => e))
      clear d0 d1 HB TW TA
      generalize wr.heap.size = q9 at *
      have d0 := cell_two0 B9.out
      have d1 := cell_two1 B9.out
      have KT := hid (told_any ⟨xt, xg⟩ s _ zs w1 (IG.out.new T1.out) hz)
      unfold sv gv at KT
      dsimp only at KT
      go_wp2_with fail
      refine KT.out.mono ?_
      rintro e w2 ⟨rfl, t2⟩
      have T2 := hid (T1.out.trans t2 (fun _ _ e => e))
      have HB2 := hid (HB1.out.still t2)
      clear KT t2 T1 HB1 d0 d1 B9
      have hsz : (⟨(toldP s.data.toList zs ⟨xt, xg⟩).toArray⟩ : ByteArray).size = (toldP s.data.toList zs ⟨xt, xg⟩).length := by
        show (toldP s.data.toList zs ⟨xt, xg⟩).toArray.size = _
        simp
      have KW := hid (writeString_any q q _ ⟨(toldP s.data.toList zs ⟨xt, xg⟩).toArray⟩ w2 HB2.out (by
        have h1 := HLN.out
        have h2 := HLE.out
        rw [HT.out, List.length_append] at h2
        rw [hsz]
        omega) (by have := lt_of_hd HB2.out; omega))
      clear hsz
      go_wp2_with fail
      refine KW.out.mono ?_
      rintro e w3 ⟨rfl, hd3, b3, _⟩
      have T3 := hid (T2.out.down b3 HQ.out)
      have HB3 := hid hd3
      clear KW hd3 b3 T2 HB2
      go_wp2
      go_roundg (gk - 1)
      case measure => omega
      case rel => exact ⟨k + 1, by omega, by go_num, hid (by rw [HT.out]; exact HB3.out), T3⟩
    · obtain rfl : k = l.length := by omega
      rw [List.take_length] at HB
      have KS := hid (string_any q q _ wr HB.out (by have := lt_of_hd HB.out; omega))
      go_wp2_with fail
      refine KS.out.mono ?_
      rintro e w1 ⟨rfl, b1⟩
      have T1 := hid (TW.out.down b1 HQ.out)
      clear b1 KS
      go_wp2
      go_ret
      exact ⟨rfl, T1.out⟩
end Go.Proofs.YtnohikoeaepfpaaDoor

/- Templates: that the program speaks; condition: the errors' values lie there. -/
namespace Go.Proofs.YtnohikoeaepfpaaDoor
open Go.RowKit
open Go.Lib

def spL : List Pc := [⟨[60], -1⟩, ⟨[], 1⟩, ⟨[36, 62], -1⟩]
theorem sp_parse : parseP [[], []] [60, 36, 49, 36, 36, 62] = (spL, 0, 0) := rfl
theorem sp_exp : expP [97, 98] [0, 2, 1, 2] spL = [60, 98, 36, 62] := rfl
theorem OwE.low {W0 W1 wr : World} {e : TypeId} {v : Value} {s : List Pc} (h : OwE W1 wr e v s) (t : Touch (fun _ => False) W0 W1) : OwE W0 wr e v s :=
  ⟨h.own, fun g hg => by have := h.new g hg; have := t.size; omega, t.trans h.touch (fun _ _ e => e)⟩
set_option maxRecDepth 100000 in
set_option maxHeartbeats 4000000 in
theorem speaks_yes (w : World) (hx : Sx w) : Calls Tryd.prog 6 #[] w fun e w' => e = .returned (.bool true) ∧ Touch (fun _ => False) w w' := by
  have T0 := hid ((Touch.refl (fun _ => False) w).alloc (.cells #[.string ⟨#[]⟩, .string ⟨#[]⟩] 9))
  have B0 := hid (two_new (w := w) (.string ⟨#[]⟩) (.string ⟨#[]⟩) 9)
  have X0 := hid (hx.new T0.out)
  clear hx
  go_enter Tryd.func6, Tryd.ntmps6
  go_wp2_with fail
  generalize w.alloc (.cells #[.string ⟨#[]⟩, .string ⟨#[]⟩] 9) = w0 at *
  generalize w.heap.size = q at *
  have N0 := hid (show Nl w0 (.slice (some ⟨q, 0, none⟩) 2 2) [[], []] from ⟨_, _, rfl, .inr ⟨q, 0, rfl, lt_of_block B0.out, fun j hj => by
    have hj' : j < 2 := hj
    match j, hj' with
    | 0, _ => exact cell_two0 B0.out
    | 1, _ => exact cell_two1 B0.out⟩⟩)
  have KP := hid (parse_any ⟨#[60, 36, 49, 36, 36, 62]⟩ _ [[], []] w0 (by decide) N0.out (by decide) X0.out)
  rw [show (⟨#[60, 36, 49, 36, 36, 62]⟩ : ByteArray).data.toList = [60, 36, 49, 36, 36, 62] from rfl, sp_parse] at KP
  dsimp only at KP
  refine KP.out.mono ?_
  rintro e w1 ⟨v1, rfl, ow1⟩
  have OW1 := hid (ow1.low T0.out)
  clear KP ow1 N0 B0 X0 T0
  obtain ⟨a1, c1, hv1, hr1⟩ := OW1.out.rg
  subst hv1
  have R1 := hid hr1
  clear hr1
  go_upto_region 2 with fail
  have OW2 := hid (OW1.out.still ((Touch.refl _ _).alloc (.cells #[.int .i64 0, .int .i64 0] 27)))
  have R2 := hid (R1.out.new ((Touch.refl _ _).alloc (.cells #[.int .i64 0, .int .i64 0] 27)))
  have F2 := hid (two_new (w := w1) (.int .i64 0) (.int .i64 0) 27)
  generalize w1.alloc (.cells #[.int .i64 0, .int .i64 0] 27) = w2 at *
  generalize w1.heap.size = q1 at *
  clear OW1 R1
  have f0 := cell_two0 F2.out
  have f1 := cell_two1 F2.out
  have T3 := hid (OW2.out.touch.alloc (.cells #[.int .i64 0, .int .i64 2, .int .i64 1, .int .i64 2] 3))
  have R3 := hid (R2.out.new ((Touch.refl _ _).alloc (.cells #[.int .i64 0, .int .i64 2, .int .i64 1, .int .i64 2] 3)))
  have B3 := hid (new_block w2 #[.int .i64 0, .int .i64 2, .int .i64 1, .int .i64 2] 3)
  go_wp2_with fail
  generalize w2.alloc (.cells #[.int .i64 0, .int .i64 2, .int .i64 1, .int .i64 2] 3) = w3 at *
  generalize w2.heap.size = q2 at *
  have I3 := hid (show Il w3 (.slice (some ⟨q2, 0, none⟩) 4 4) [0, 2, 1, 2] from ⟨_, _, rfl, .inr ⟨q2, 0, rfl, lt_of_block B3.out, fun j hj => by
    have hj' : j < 4 := hj
    have hb := B3.out
    match j, hj' with
    | 0, _ => simp [World.cell?, hb]
    | 1, _ => simp [World.cell?, hb]
    | 2, _ => simp [World.cell?, hb]
    | 3, _ => simp [World.cell?, hb]⟩⟩)
  have KE := hid (expand_any spL ⟨#[97, 98]⟩ _ [0, 2, 1, 2] w3 a1 c1 R3.out I3.out (by decide) (by decide) (by
    rw [show (⟨#[97, 98]⟩ : ByteArray).data.toList = [97, 98] from rfl, sp_exp]
    decide))
  rw [show (⟨#[97, 98]⟩ : ByteArray).data.toList = [97, 98] from rfl, sp_exp] at KE
  unfold sv at KE
  refine KE.out.mono ?_
  rintro e w4 ⟨rfl, t4⟩
  have T4 := hid (T3.out.trans t4 (fun _ _ e => e))
  clear KE t4
  go_wp2
  go_ret
  exact ⟨rfl, T4.out⟩
end Go.Proofs.YtnohikoeaepfpaaDoor

/- The document's digit and group; conditions: the text is of at most 4096 bytes, the names lie in memory. -/
namespace Go.Proofs.YtnohikoeaepfpaaDoor
open Go.RowKit
open Go.Lib

def dgAt (s : ByteArray) (i : Nat) : Bool := match s.data.toList[i]? with
  | some c => digB c
  | none => false
theorem dgAt_lt (s : ByteArray) (i : Nat) (h : i < s.size) : dgAt s i = digB s[i] := by
  unfold dgAt
  rw [at_opt s i h]
theorem dgAt_ge (s : ByteArray) (i : Nat) (h : s.size ≤ i) : dgAt s i = false := by
  unfold dgAt
  rw [List.getElem?_eq_none (by rw [size_list]; exact h)]
set_option maxRecDepth 100000 in
set_option maxHeartbeats 4000000 in
theorem rdigit_any (s : ByteArray) (i : Nat) (w : World) (_hs : s.size ≤ 1048576) (_hi : i ≤ 1048576) :
    Calls Tryd.prog 17 #[.string s, .int .i64 (i : Nat)] w fun e w' => e = .returned (.bool (dgAt s i)) ∧ w = w' := by
  by_cases hlt : i < s.size
  · have hltI : (i : Int) < (s.size : Int) := by omega
    rw [dgAt_lt s i hlt]
    have HDG := hid (dig_iff s[i])
    obtain ⟨d, hd⟩ : ∃ d, d = digB s[i] := ⟨_, rfl⟩
    rw [← hd] at HDG ⊢
    clear hd
    obtain ⟨x, hxe⟩ : ∃ x : Nat, x = s[i].toNat := ⟨_, rfl⟩
    have hbg : s[i].toNat = x := hxe.symm
    rw [hbg] at HDG
    clear hxe
    by_cases h1 : (48 : Int) ≤ (x : Int)
    · by_cases h2 : (x : Int) ≤ 57
      · have HE := hid (show d = true from HDG.out.2 ⟨by omega, by omega⟩)
        go_enter Tryd.func17, Tryd.ntmps17
        go_wp2
        go_ret
        exact ⟨by rw [HE.out]; rfl, rfl⟩
      · have HE := hid (show d = false from by
          cases d with
          | false => rfl
          | true => have := HDG.out.1 rfl; omega)
        go_enter Tryd.func17, Tryd.ntmps17
        go_wp2
        go_ret
        exact ⟨by rw [HE.out]; rfl, rfl⟩
    · have HE := hid (show d = false from by
        cases d with
        | false => rfl
        | true => have := HDG.out.1 rfl; omega)
      go_enter Tryd.func17, Tryd.ntmps17
      go_wp2
      go_ret
      exact ⟨by rw [HE.out]; rfl, rfl⟩
  · have hltI : ¬ (i : Int) < (s.size : Int) := by omega
    rw [dgAt_ge s i (by omega)]
    go_enter Tryd.func17, Tryd.ntmps17
    go_wp2
    go_ret
    exact ⟨rfl, rfl⟩

theorem dg_all : ∀ (k : Nat) (cs : Bs), cs.length ≤ k → (∀ c ∈ cs, digB c = true) → dg k cs = cs.length
  | 0, [], _, _ => rfl
  | 0, c :: cs, h, _ => by simp at h
  | k + 1, [], _, _ => rfl
  | k + 1, c :: cs, h, hd => by
    rw [dg, if_pos (hd c (by simp)), dg_all k cs (by simpa using h) (fun x hx => hd x (by simp [hx])), List.length_cons]
/-- A text that is a number of a group. -/
def numB (cs : Bs) : Prop := cs ≠ [] ∧ dg 4 cs = cs.length
theorem called_num {ns : List Bs} {cs : Bs} (h : numB cs) : calledP ns cs = some (val10 cs) := by
  unfold calledP
  rw [if_neg h.1, if_pos h.2]
theorem called_name {ns : List Bs} {cs : Bs} (h : ¬ numB cs) (h0 : cs ≠ []) : calledP ns cs = idxN cs ns := by
  unfold calledP
  rw [if_neg h0, if_neg (fun e => h ⟨h0, e⟩)]
set_option maxRecDepth 100000 in
set_option maxHeartbeats 8000000 in
theorem rgroup_any (s : ByteArray) (v : Value) (ns : List Bs) (w : World) (hs : s.size ≤ 4096) (hN : Nl w v ns) (hn : ns.length ≤ 1048576) :
    Calls Tryd.prog 18 #[.string s, v] w fun e w' => e = .returned (.int .i64 (idxV (calledP ns s.data.toList))) ∧ w = w' := by
  obtain ⟨X, hX⟩ : ∃ X, X = calledP ns s.data.toList := ⟨_, rfl⟩
  have HX := hid hX
  rw [← hX]
  clear hX
  obtain ⟨a, c, rfl, hN⟩ := hN
  have HN := hid hN
  clear hN
  by_cases h0 : s.data.toList = []
  · have HNM := hid (show X = none from by rw [HX.out, h0]; rfl)
    have hs0 : s.toList = [] := by rw [toList_data]; exact h0
    have hse : s.toList.isEmpty = true := by rw [hs0]; rfl
    have hz : s.size = 0 := by rw [← size_list, h0]; rfl
    have hzI : ¬ (0 : Int) < (s.size : Int) := by omega
    clear h0 hz HX HN
    go_enter Tryd.func18, Tryd.ntmps18
    go_wp2_with fail
    go_loopg [5, 6, 7] 0 (fun gk v5 v6 v7 wr => v5 = .int .i64 0 ∧ v6 = .bool false ∧ v7 = .int .i64 0 ∧ w = wr)
    case atStart => exact ⟨rfl, rfl, rfl, rfl⟩
    case round =>
      obtain ⟨rfl, rfl, rfl, rfl⟩ := hrel
      go_wp2
      go_loopg [8] ns.length (fun gk v8 wr => ∃ i : Nat, i + gk = ns.length ∧ v8 = .int .i64 (i : Nat) ∧ w = wr)
      case atStart => exact ⟨0, by omega, rfl, rfl⟩
      case round =>
        obtain ⟨i, hi, rfl, rfl⟩ := hrel
        by_cases hlt : i < ns.length
        · have hltI : (i : Int) < (ns.length : Int) := by omega
          go_wp2
          go_roundg (gk - 1)
          case measure => omega
          case rel => exact ⟨i + 1, by omega, by go_num, rfl⟩
        · obtain rfl : i = ns.length := by omega
          go_wp2
          go_ret
          exact ⟨by rw [HNM.out]; rfl, rfl⟩
  · have hs0 : ¬ s.toList = [] := by rw [toList_data]; exact h0
    have hse : s.toList.isEmpty = false := by
      rw [Bool.eq_false_iff]
      intro e
      rw [List.isEmpty_iff, toList_data] at e
      exact h0 e
    have hp : 0 < s.size := by rw [← size_list]; exact List.length_pos_iff.2 h0
    have hpI : (0 : Int) < (s.size : Int) := by omega
    by_cases h4 : s.size ≤ 4
    · have h4I : (s.size : Int) ≤ 4 := by omega
      have KD := hid (fun i (hi : i ≤ 1048576) => rdigit_any s i w (by omega) hi)
      have H0 := hid h0
      clear h0
      go_enter Tryd.func18, Tryd.ntmps18
      go_wp2_with fail
      go_loopg [5, 6, 7] (s.size + 1) (fun gk v5 v6 v7 wr => ∃ (i : Nat) (n : Int) (b : Bool), v5 = .int .i64 n ∧ v6 = .bool b ∧ v7 = .int .i64 (i : Nat) ∧ w = wr ∧ (b = true → i + gk = s.size + 1 ∧ i ≤ s.size ∧ n = (val10 (s.data.toList.take i) : Nat) ∧ ∀ c ∈ s.data.toList.take i, digB c = true) ∧ (b = false → ¬ numB s.data.toList))
      case atStart => exact ⟨0, 0, true, rfl, rfl, rfl, rfl, fun _ => ⟨by omega, by omega, rfl, fun c hc => by simp at hc⟩, fun h => by cases h⟩
      case round =>
        obtain ⟨i, n, b, rfl, rfl, rfl, rfl, ht, hf⟩ := hrel
        cases b with
        | false =>
          have HNM := hid (show X = idxN s.data.toList ns from by rw [HX.out, called_name (hf rfl) H0.out])
          clear ht hf
          go_wp2
          go_loopg [8] ns.length (fun gk v8 wr => ∃ i : Nat, i + gk = ns.length ∧ v8 = .int .i64 (i : Nat) ∧ Hid (X = (idxN s.data.toList (ns.drop i)).map (· + i)) ∧ w = wr)
          case atStart => exact ⟨0, by omega, rfl, hid (by rw [HNM.out, List.drop_zero]; simp), rfl⟩
          case round =>
            obtain ⟨i, hi, rfl, HD, rfl⟩ := hrel
            by_cases hlt : i < ns.length
            · have hltI : (i : Int) < (ns.length : Int) := by omega
              obtain ⟨b, o, rfl, hb, hc⟩ : ∃ b o, a = some ⟨b, o, none⟩ ∧ b < w.heap.size ∧ ∀ j (h : j < ns.length), w.cell? ⟨b, o + j, none⟩ = some (sv ns[j]) := by
                rcases HN.out with h | h
                · rw [h] at hlt; simp at hlt
                · exact h
              have d0 := hc i hlt
              rw [List.drop_eq_getElem_cons hlt, idxN] at HD
              obtain ⟨x, hxe⟩ : ∃ x, x = ns[i] := ⟨_, rfl⟩
              rw [← hxe] at HD d0
              unfold sv at d0
              clear hxe hc hb
              by_cases hx : x = s.data.toList
              · rw [if_pos hx] at HD
                have hbq : (x == s.toList) = true := by rw [hx, toList_data]; simp
                clear hx
                go_wp2
                go_ret
                exact ⟨by rw [HD.out]; simp [idxV], rfl⟩
              · rw [if_neg hx] at HD
                have hbq : (x == s.toList) = false := by
                  rw [beq_eq_false_iff_ne, toList_data]
                  exact hx
                clear hx
                go_wp2
                go_roundg (gk - 1)
                case measure => omega
                case rel => exact ⟨i + 1, by omega, by go_num, hid (by
                  rw [HD.out, Option.map_map]
                  congr 1
                  funext k
                  simp only [Function.comp]
                  omega), rfl⟩
            · obtain rfl : i = ns.length := by omega
              rw [List.drop_length] at HD
              go_wp2
              go_ret
              exact ⟨by rw [HD.out]; rfl, rfl⟩
        | true =>
          obtain ⟨hig, his, rfl, hdg⟩ := ht rfl
          clear ht hf
          have hvb := val_bound 4 (s.data.toList.take i) (by rw [List.length_take, size_list]; omega) hdg
          have HA := hid hdg
          clear hdg
          by_cases hlt : i < s.size
          · have hltI : (i : Int) < (s.size : Int) := by omega
            have HTK := hid (show s.data.toList.take (i + 1) = s.data.toList.take i ++ [s[i]] from List.take_succ_eq_append_getElem (by rw [size_list]; exact hlt))
            have HM := hid (show s[i] ∈ s.data.toList from List.getElem_mem (by rw [size_list]; exact hlt))
            have K := hid (KD.out i (by omega))
            rw [dgAt_lt s i hlt] at K
            have HDG := hid (dig_iff s[i])
            have hb256 : s[i].toNat < 256 := s[i].toNat_lt
            obtain ⟨V, hV⟩ : ∃ V, V = val10 (s.data.toList.take i) := ⟨_, rfl⟩
            rw [← hV] at hvb ⊢
            have HV2 := hid hV
            obtain ⟨x, hxe⟩ : ∃ x : Nat, x = s[i].toNat := ⟨_, rfl⟩
            have hbg : s[i].toNat = x := hxe.symm
            rw [hbg] at HDG hb256
            clear hxe hV
            by_cases hd : digB s[i] = true
            · have hr := HDG.out.1 hd
              have HNV := hid (show val10 (s.data.toList.take (i + 1)) = 10 * V + (x - 48) from by rw [HTK.out, val_snoc, ← HV2.out, hbg])
              have HNA := hid (show ∀ c ∈ s.data.toList.take (i + 1), digB c = true from by
                rw [HTK.out]
                intro c hc
                rcases List.mem_append.1 hc with h | h
                · exact HA.out c h
                · simp at h; subst h; exact hd)
              rw [hd] at K
              clear hd
              go_wp2_with fail
              refine K.out.mono ?_
              rintro e w1 ⟨rfl, rfl⟩
              clear K
              go_wp2
              go_roundg (gk - 1)
              case measure => omega
              case rel => exact ⟨i + 1, _, true, rfl, rfl, by go_num, rfl, fun _ => ⟨by omega, by omega, by rw [HNV.out]; go_num, HNA.out⟩, fun h => by cases h⟩
            · have HNN := hid (show ¬ numB s.data.toList from fun h => hd (by
                have := dg_dig 4 s.data.toList
                rw [h.2, List.take_length] at this
                exact this _ HM.out))
              rw [Bool.not_eq_true] at hd
              rw [hd] at K
              clear hd
              go_wp2_with fail
              refine K.out.mono ?_
              rintro e w1 ⟨rfl, rfl⟩
              clear K
              go_wp2
              go_roundg (gk - 1)
              case measure => omega
              case rel => exact ⟨i + 1, _, false, rfl, rfl, by go_num, rfl, (fun h => by cases h), fun _ => HNN.out⟩
          · obtain rfl : i = s.size := by omega
            have htk : s.data.toList.take s.size = s.data.toList := List.take_of_length_le (by rw [size_list]; exact Nat.le_refl _)
            rw [htk] at HA hvb ⊢
            clear htk
            have HE := hid (show X = some (val10 s.data.toList) from by
              rw [HX.out, called_num ⟨H0.out, dg_all 4 _ (by rw [size_list]; exact h4) HA.out⟩])
            go_wp2
            go_ret
            exact ⟨by rw [HE.out]; rfl, rfl⟩
    · have h4I : ¬ (s.size : Int) ≤ 4 := by omega
      have HNM := hid (show X = idxN s.data.toList ns from by
        rw [HX.out, called_name (fun h => h4 (by
          have := dg_le 4 s.data.toList
          have e := h.2
          rw [size_list] at e
          omega)) h0])
      clear h0 HX h4
      go_enter Tryd.func18, Tryd.ntmps18
      go_wp2_with fail
      go_loopg [5, 6, 7] 0 (fun gk v5 v6 v7 wr => v5 = .int .i64 0 ∧ v6 = .bool false ∧ v7 = .int .i64 0 ∧ w = wr)
      case atStart => exact ⟨rfl, rfl, rfl, rfl⟩
      case round =>
        obtain ⟨rfl, rfl, rfl, rfl⟩ := hrel
        go_wp2
        go_loopg [8] ns.length (fun gk v8 wr => ∃ i : Nat, i + gk = ns.length ∧ v8 = .int .i64 (i : Nat) ∧ Hid (X = (idxN s.data.toList (ns.drop i)).map (· + i)) ∧ w = wr)
        case atStart => exact ⟨0, by omega, rfl, hid (by rw [HNM.out, List.drop_zero]; simp), rfl⟩
        case round =>
          obtain ⟨i, hi, rfl, HD, rfl⟩ := hrel
          by_cases hlt : i < ns.length
          · have hltI : (i : Int) < (ns.length : Int) := by omega
            obtain ⟨b, o, rfl, hb, hc⟩ : ∃ b o, a = some ⟨b, o, none⟩ ∧ b < w.heap.size ∧ ∀ j (h : j < ns.length), w.cell? ⟨b, o + j, none⟩ = some (sv ns[j]) := by
              rcases HN.out with h | h
              · rw [h] at hlt; simp at hlt
              · exact h
            have d0 := hc i hlt
            rw [List.drop_eq_getElem_cons hlt, idxN] at HD
            obtain ⟨x, hxe⟩ : ∃ x, x = ns[i] := ⟨_, rfl⟩
            rw [← hxe] at HD d0
            unfold sv at d0
            clear hxe hc hb
            by_cases hx : x = s.data.toList
            · rw [if_pos hx] at HD
              have hbq : (x == s.toList) = true := by rw [hx, toList_data]; simp
              clear hx
              go_wp2
              go_ret
              exact ⟨by rw [HD.out]; simp [idxV], rfl⟩
            · rw [if_neg hx] at HD
              have hbq : (x == s.toList) = false := by
                rw [beq_eq_false_iff_ne, toList_data]
                exact hx
              clear hx
              go_wp2
              go_roundg (gk - 1)
              case measure => omega
              case rel => exact ⟨i + 1, by omega, by go_num, hid (by
                rw [HD.out, Option.map_map]
                congr 1
                funext k
                simp only [Function.comp]
                omega), rfl⟩
          · obtain rfl : i = ns.length := by omega
            rw [List.drop_length] at HD
            go_wp2
            go_ret
            exact ⟨by rw [HD.out]; rfl, rfl⟩
end Go.Proofs.YtnohikoeaepfpaaDoor
