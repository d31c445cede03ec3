/- Texts of this proof, one behind the other: what each says stands ahead of it. -/
import Derived.Test.YtnohikoeaepfpaaDoorM6
import Derived.Test.YtnohikoeaepfpaaDoorM3
import Derived.Test.YtnohikoeaepfpaaDoorM5
import Derived.Lib.SmallJoins
import Derived.ChangeKeysEq
/- A group's number in a template, with brackets or not, plain; no condition. -/
namespace Go.Proofs.YtnohikoeaepfpaaDoor
open Go.RowKit

def Bh (B : Bs) : Prop := (∀ c ∈ B, c ≠ 36) ∧ ∀ c, B[0]? = some c → digB c = false
theorem dg_zero {k : Nat} {B : Bs} (h : ∀ c, B[0]? = some c → digB c = false) : dg k B = 0 := by
  cases k with
  | zero => rfl
  | succ k =>
    cases B with
    | nil => rfl
    | cons c B => rw [dg, if_neg (by rw [h c rfl]; decide)]
theorem dg_app : ∀ (k : Nat) (D B : Bs), (∀ c ∈ D, digB c = true) → D.length ≤ k → (∀ c, B[0]? = some c → digB c = false) → dg k (D ++ B) = D.length
  | k, [], B, _, _, hB => dg_zero hB
  | 0, c :: D, B, _, h, _ => by simp at h
  | k + 1, c :: D, B, hD, h, hB => by
    rw [List.cons_append, dg, if_pos (hD c (by simp)), dg_app k D B (fun x hx => hD x (by simp [hx])) (by simpa using h) hB, List.length_cons]
theorem idx_app {c : UInt8} : ∀ (D B : Bs), (∀ x ∈ D, x ≠ c) → idxOf c (D ++ c :: B) = some D.length
  | [], B, _ => by rw [List.nil_append, idxOf, if_pos rfl]; rfl
  | x :: D, B, h => by
    rw [List.cons_append, idxOf, if_neg (h x (by simp)), idx_app D B (fun y hy => h y (by simp [hy]))]
    rfl
theorem dig_ne {c d : UInt8} (h : digB c = true) (hd : digB d = false) : c ≠ d := fun e => by rw [e, hd] at h; cases h
structure Dg (D : Bs) (n : Nat) : Prop where
  dig : ∀ c ∈ D, digB c = true
  one : 1 ≤ D.length
  four : D.length ≤ 4
  val : val10 D = n
theorem Dg.head {D : Bs} {n : Nat} (h : Dg D n) : ∃ c D', D = c :: D' ∧ digB c = true := by
  cases D with
  | nil => have := h.one; simp at this
  | cons c D' => exact ⟨c, D', rfl, h.dig c (by simp)⟩
theorem sign_num {ns : List Bs} {D B : Bs} {n : Nat} (h : Dg D n) (hB : Bh B) : signP ns (D ++ B) = some (n, 1 + D.length) ∧ (D ++ B)[0]? ≠ some 36 := by
  have hdg := dg_app 4 D B h.dig h.four hB.2
  have htk : (D ++ B).take D.length = D := by simp
  have hone := h.one
  have hv := h.val
  obtain ⟨c, D', rfl, hc⟩ := h.head
  refine ⟨?_, ?_⟩
  · rw [List.cons_append] at hdg htk ⊢
    rw [signP, if_neg (dig_ne hc (by decide)), if_neg (by omega), hdg, htk, hv]
  · intro e
    rw [List.cons_append] at e
    simp at e
    exact dig_ne hc (d := 36) (by decide) e
theorem sign_br {ns : List Bs} {D B : Bs} {n : Nat} (h : Dg D n) : signP ns (123 :: (D ++ 125 :: B)) = some (n, D.length + 3) ∧ (123 :: (D ++ 125 :: B))[0]? ≠ some 36 := by
  refine ⟨?_, by simp⟩
  have hne : D ≠ [] := fun e => by have := h.one; rw [e] at this; simp at this
  rw [signP, if_pos rfl, idx_app D B (fun x hx => dig_ne (h.dig x hx) (by decide))]
  dsimp only
  have htk : (D ++ 125 :: B).take D.length = D := by simp
  rw [htk]
  unfold calledP
  rw [if_neg hne, if_pos (dg_all 4 D h.four h.dig), h.val]
  rfl
theorem parse_num {ns : List Bs} {r B : Bs} {n k : Nat} (hs : signP ns r = some (n, k)) (hr : r[0]? ≠ some 36) (hd : (36 :: r).drop k = B) (hB : Bh B) (hl : (36 :: r).length ≤ 1024) :
    parseP ns (36 :: r) = if n < ns.length then (nm [⟨[], (n : Int)⟩] B, 0, 0) else ([], 27, 0) := by
  unfold parseP
  rw [if_neg (by omega)]
  by_cases h : n < ns.length
  · rw [if_pos h, G_group hr hs h, hd, nm_nil, List.nil_append]
    have := G_chunk ns B [⟨[], (n : Int)⟩] [] [] (0 + k) hB.1
    rw [List.append_nil] at this
    rw [this]
    rfl
  · rw [if_neg h, G_over hr hs h]
    rfl
theorem parse_num1 {ns : List Bs} {D B : Bs} {n : Nat} (h : Dg D n) (hB : Bh B) (hl : B.length ≤ 900) : parseP ns (36 :: (D ++ B)) = if n < ns.length then (nm [⟨[], (n : Int)⟩] B, 0, 0) else ([], 27, 0) := by
  have hs := sign_num (ns := ns) h hB
  refine parse_num hs.1 hs.2 ?_ hB ?_
  · rw [Nat.add_comm, List.drop_succ_cons]
    simp
  · have := h.four
    simp only [List.length_cons, List.length_append]
    omega
theorem parse_num2 {ns : List Bs} {D B : Bs} {n : Nat} (h : Dg D n) (hB : Bh B) (hl : B.length ≤ 900) : parseP ns (36 :: 123 :: (D ++ 125 :: B)) = if n < ns.length then (nm [⟨[], (n : Int)⟩] B, 0, 0) else ([], 27, 0) := by
  have hs := sign_br (ns := ns) (B := B) h
  refine parse_num hs.1 hs.2 ?_ hB ?_
  · rw [List.drop_succ_cons, List.drop_succ_cons]
    have e : D ++ 125 :: B = (D ++ [125]) ++ B := by simp
    rw [e, List.drop_left' (by simp)]
  · have := h.four
    simp only [List.length_cons, List.length_append]
    omega
end Go.Proofs.YtnohikoeaepfpaaDoor

/- Expand of templates; conditions: pieces and notes lie in memory, what is told is of at most 1048576 bytes. -/
namespace Go.Proofs.YtnohikoeaepfpaaDoor
open Go.RowKit
open Go.Lib
open Go.Shelf

theorem builderX : Builder.Extra Tryd.prog Tryd.lays169_ren :=
  { sizeBuilder := by kernel_rfl, liesBuilder := by kernel_rfl, t5 := Tryd.underlying5, a5 := Tryd.isAgg5, z5 := Tryd.sizeOf5, v5 := Tryd.zeroValue5, infoByte := by kernel_rfl, cellsByte := by kernel_rfl, sizeByte := by kernel_rfl, neB5 := by decide }
theorem string_any (B b : Nat) (l : List UInt8) (w : World) (h : Hd B b l w) (hB : B ≤ w.heap.size) :
    Calls Tryd.prog 16 #[.pointer (some ⟨b, 0, none⟩)] w fun e w' => e = .returned (.string ⟨l.toArray⟩) ∧ Below B w w' :=
  Any.Builder_String_any Tryd.lays169 builderX B b l w h hB

theorem lt_of_hd {B b : Nat} {l : List UInt8} {w : World} (h : Hd B b l w) : B ≤ b ∧ b < w.heap.size := by
  rcases h with ⟨h1, v, h2, _⟩ | ⟨h1, v, h2, _⟩
  · exact ⟨h1, lt_of_block h2⟩
  · exact ⟨h1, lt_of_block h2⟩
/-- Numbers in memory. -/
def Il (w : World) (v : Value) (zs : List Int) : Prop :=
  ∃ a c, v = .slice a zs.length c ∧ (zs = [] ∨ ∃ b o, a = some ⟨b, o, none⟩ ∧ b < w.heap.size ∧ ∀ j (h : j < zs.length), w.cell? ⟨b, o + j, none⟩ = some (.int .i64 zs[j]))
theorem Il.new {w w' : World} {v : Value} {ns : List Int} (h : Il w v ns) (t : Touch (fun _ => False) w w') : Il w' v ns := by
  obtain ⟨a, c, rfl, h⟩ := h
  refine ⟨a, c, rfl, ?_⟩
  rcases h with h | ⟨b, o, rfl, hb, hc⟩
  · exact .inl h
  · refine .inr ⟨b, o, rfl, Nat.lt_of_lt_of_le hb t.size, fun j hj => ?_⟩
    rw [t.cell (p := ⟨b, o + j, none⟩) hb id]
    exact hc j hj
/-- What stands for a piece. -/
def toldP (cs : Bs) (zs : List Int) (x : Pc) : Bs :=
  if x.g < 0 then x.t else if ((zs.length / 2 : Nat) : Int) ≤ x.g then [] else
  if zs[2 * x.g.toNat]?.getD 0 < 0 ∨ zs[2 * x.g.toNat + 1]?.getD 0 < zs[2 * x.g.toNat]?.getD 0 ∨ (cs.length : Int) < zs[2 * x.g.toNat + 1]?.getD 0 then []
  else (cs.drop (zs[2 * x.g.toNat]?.getD 0).toNat).take ((zs[2 * x.g.toNat + 1]?.getD 0).toNat - (zs[2 * x.g.toNat]?.getD 0).toNat)
set_option maxRecDepth 100000 in
set_option maxHeartbeats 4000000 in
theorem told_any (x : Pc) (s : ByteArray) (v : Value) (zs : List Int) (w : World) (hI : Il w v zs) (hz : zs.length ≤ 140737488355328) :
    Calls Tryd.prog 15 #[.agg #[sv x.t, gv x.g], .string s, v] w fun e w' => e = .returned (sv (toldP s.data.toList zs x)) ∧ Touch (fun _ => False) w w' := by
  have T0 := hid ((Touch.refl (fun _ => False) w).alloc (.cells #[sv x.t, gv x.g] 35))
  have FB0 := hid (two_new (w := w) (sv x.t) (gv x.g) 35)
  have I0 := hid (hI.new T0.out)
  obtain ⟨a, c, rfl, _⟩ := hI
  unfold toldP
  by_cases hg : x.g < 0
  · rw [if_pos hg]
    clear I0
    obtain ⟨t, g⟩ := x
    unfold sv gv at *
    dsimp only at hg FB0 T0 ⊢
    go_enter Tryd.func15, Tryd.ntmps15
    go_wp2
    go_ret
    exact ⟨rfl, T0.out⟩
  · rw [if_neg hg]
    obtain ⟨n, hn⟩ : ∃ n : Nat, x.g = (n : Int) := ⟨x.g.toNat, by omega⟩
    rw [hn, Int.toNat_natCast]
    by_cases h2 : ((zs.length / 2 : Nat) : Int) ≤ (n : Int)
    · rw [if_pos h2]
      have h2I : (zs.length : Int) / 2 ≤ (n : Int) := by omega
      have hn0 : ¬ (n : Int) < 0 := by omega
      clear I0
      rw [hn] at FB0 T0
      clear h2 hg hn
      obtain ⟨t, g⟩ := x
      unfold sv gv at *
      dsimp only at FB0 T0 ⊢
      go_enter Tryd.func15, Tryd.ntmps15
      go_wp2
      go_ret
      exact ⟨rfl, T0.out⟩
    · rw [if_neg h2]
      have hlt1 : 2 * n + 1 < zs.length := by omega
      have hlt0 : 2 * n < zs.length := by omega
      have h2I : ¬ (zs.length : Int) / 2 ≤ (n : Int) := by omega
      have hn0 : ¬ (n : Int) < 0 := by omega
      rw [List.getElem?_eq_getElem hlt0, List.getElem?_eq_getElem hlt1, Option.getD_some, Option.getD_some]
      obtain ⟨b, o, rfl, hb, hc⟩ : ∃ b o, a = some ⟨b, o, none⟩ ∧ b < (w.alloc (.cells #[sv x.t, gv x.g] 35)).heap.size ∧ ∀ j (h : j < zs.length), (w.alloc (.cells #[sv x.t, gv x.g] 35)).cell? ⟨b, o + j, none⟩ = some (.int .i64 zs[j]) := by
        obtain ⟨a', c', e, h⟩ := I0.out
        cases e
        rcases h with h | h
        · rw [h] at hlt0; simp at hlt0
        · exact h
      have c0 := hc (2 * n) hlt0
      have c1 := hc (2 * n + 1) hlt1
      generalize zs[2 * n] = f at *
      generalize zs[2 * n + 1] = e at *
      rw [hn] at FB0 T0 c0 c1
      rw [size_list]
      have hl0I : 2 * (n : Int) < (zs.length : Int) := by omega
      have hl1I : 2 * (n : Int) + 1 < (zs.length : Int) := by omega
      clear h2 hg hn I0 hc hb hlt0 hlt1
      obtain ⟨t, g⟩ := x
      unfold sv gv at FB0 T0 c0 c1
      dsimp only at FB0 T0 c0 c1 ⊢
      obtain ⟨R, hR⟩ : ∃ R, R = sv (if f < 0 ∨ e < f ∨ (s.size : Int) < e then [] else (s.data.toList.drop f.toNat).take (e.toNat - f.toNat)) := ⟨_, rfl⟩
      rw [← hR]
      have HR := hid hR
      clear hR
      unfold sv gv
      go_enter Tryd.func15, Tryd.ntmps15
      go_wp2
      have d0 := cell_two0 FB0.out
      have d1 := cell_two1 FB0.out
      generalize w.alloc (.cells #[.string ⟨t.toArray⟩, .int .i64 (n : Int)] 35) = w0 at *
      generalize w.heap.size = q at *
      clear FB0
      go_quiet (fail)
      by_cases hf : f < 0
      · rw [if_pos (.inl hf)] at HR
        go_wp2
        go_ret
        exact ⟨by rw [HR.out]; rfl, T0.out.drewN _⟩
      · by_cases hef : e < f
        · rw [if_pos (.inr (.inl hef))] at HR
          go_wp2
          go_ret
          exact ⟨by rw [HR.out]; rfl, T0.out.drewN _⟩
        · by_cases hes : (s.size : Int) < e
          · rw [if_pos (.inr (.inr hes))] at HR
            go_wp2
            go_ret
            exact ⟨by rw [HR.out]; rfl, T0.out.drewN _⟩
          · rw [if_neg (fun h => h.elim hf (fun h => h.elim hef hes))] at HR
            obtain ⟨f', rfl⟩ : ∃ f' : Nat, f = (f' : Int) := ⟨f.toNat, by omega⟩
            obtain ⟨e', rfl⟩ : ∃ e' : Nat, e = (e' : Int) := ⟨e.toNat, by omega⟩
            rw [Int.toNat_natCast, Int.toNat_natCast, ← ext_list] at HR
            have h1 : (f' : Int) ≤ (e' : Int) := by omega
            have h2 : (e' : Int) ≤ (s.size : Int) := by omega
            go_wp2
            go_ret
            exact ⟨by rw [HR.out]; rfl, T0.out.drewN _⟩

/-- Pieces expanded. -/
def expP (cs : Bs) (zs : List Int) (l : List Pc) : Bs := l.flatMap (toldP cs zs)
theorem expP_take (cs : Bs) (zs : List Int) (l : List Pc) (i : Nat) (h : i < l.length) : expP cs zs (l.take (i + 1)) = expP cs zs (l.take i) ++ toldP cs zs l[i] := by
  unfold expP
  rw [List.take_succ_eq_append_getElem h, List.flatMap_append]
  simp
theorem expP_le (cs : Bs) (zs : List Int) (l : List Pc) (i : Nat) : (expP cs zs (l.take i)).length ≤ (expP cs zs l).length := by
  have : expP cs zs l = expP cs zs (l.take i) ++ expP cs zs (l.drop i) := by
    unfold expP
    rw [← List.flatMap_append, List.take_append_drop]
  rw [this, List.length_append]
  omega
theorem Touch.down {w a b : World} {B : Nat} (h : Touch (fun _ => False) w a) (k : Below B a b) (hB : w.heap.size ≤ B) : Touch (fun _ => False) w b :=
  h.trans (touch_of_below k) (fun i hi e => by omega)
set_option maxRecDepth 100000 in
set_option maxHeartbeats 4000000 in
theorem expand_any (l : List Pc) (s : ByteArray) (v : Value) (zs : List Int) (w : World) (al : Option Addr) (cl : Nat) (hR : Rg w al l) (hI : Il w v zs) (hl : l.length ≤ 140737488355328) (hz : zs.length ≤ 140737488355328) (hlen : (expP s.data.toList zs l).length ≤ 1048576) :
    Calls Tryd.prog 8 #[.slice al l.length cl, .string s, v] w fun e w' => e = .returned (sv (expP s.data.toList zs l)) ∧ Touch (fun _ => False) w w' := by
  have HH := hid (Hd.new w)
  have T0 := hid ((Touch.refl (fun _ => False) w).alloc (.cells #[.pointer none, .slice none 0 0] 48))
  have RG := hid hR
  have IG := hid hI
  clear hR
  obtain ⟨a, c, rfl, _⟩ := hI
  have HLN := hid hlen
  clear hlen
  go_enter Tryd.func8, Tryd.ntmps8
  go_wp2_with fail
  generalize w.alloc (.cells #[.pointer none, .slice none 0 0] 48) = w0 at *
  obtain ⟨q, hq⟩ : ∃ q, q = w.heap.size := ⟨_, rfl⟩
  rw [← hq] at HH ⊢
  have HQ := hid (show w.heap.size ≤ q from by omega)
  clear hq
  go_loopg [12] l.length (fun gk v12 wr => ∃ k : Nat, k + gk = l.length ∧ v12 = .int .i64 (k : Nat) ∧ Hid (Hd q q (expP s.data.toList zs (l.take k)) wr) ∧ Hid (Touch (fun _ => False) w wr))
  case atStart => exact ⟨0, by omega, rfl, hid HH.out, T0⟩
  case round =>
    obtain ⟨k, hk, rfl, HB, TW⟩ := hrel
    by_cases hlt : k < l.length
    · obtain ⟨b, o, rfl, hb, hc⟩ : ∃ b o, al = some ⟨b, o, none⟩ ∧ b < wr.heap.size ∧ ∀ i (h : i < l.length), wr.cell? ⟨b, o + i * 2, none⟩ = some (sv (l[i]).t) ∧ wr.cell? ⟨b, o + i * 2 + 1, none⟩ = some (gv (l[i]).g) := by
        rcases RG.out.new TW.out with h | h
        · rw [h] at hlt; simp at hlt
        · exact h
      obtain ⟨d0, d1⟩ := hc k hlt
      have HT := hid (expP_take s.data.toList zs l k hlt)
      have HLE := hid (expP_le s.data.toList zs l (k + 1))
      obtain ⟨x, hx⟩ : ∃ x, x = l[k] := ⟨_, rfl⟩
      rw [← hx] at d0 d1 HT
      clear hc hx hb
      have hltI : (k : Int) < (l.length : Int) := by omega
      unfold sv at d0
      unfold gv at d1
      obtain ⟨xt, xg⟩ := x
      dsimp only at d0 d1
      have TA := hid ((Touch.refl (fun _ => False) wr).alloc (.cells #[.string ⟨xt.toArray⟩, .int .i64 xg] 35))
      have B9 := hid (two_new (w := wr) (.string ⟨xt.toArray⟩) (.int .i64 xg) 35)
      go_upto_region 5 with fail
      generalize wr.alloc (.cells #[.string ⟨xt.toArray⟩, .int .i64 xg] 35) = w1 at *
      have HB1 := hid (HB.out.still TA.out)
      have T1 := hid (TW.out.trans TA.out (fun _ _ e => e))
      clear d0 d1 HB TW TA
      generalize wr.heap.size = q9 at *
      have d0 := cell_two0 B9.out
      have d1 := cell_two1 B9.out
      have KT := hid (told_any ⟨xt, xg⟩ s _ zs w1 (IG.out.new T1.out) hz)
      unfold sv gv at KT
      dsimp only at KT
      go_wp2_with fail
      refine KT.out.mono ?_
      rintro e w2 ⟨rfl, t2⟩
      have T2 := hid (T1.out.trans t2 (fun _ _ e => e))
      have HB2 := hid (HB1.out.still t2)
      clear KT t2 T1 HB1 d0 d1 B9
      have hsz : (⟨(toldP s.data.toList zs ⟨xt, xg⟩).toArray⟩ : ByteArray).size = (toldP s.data.toList zs ⟨xt, xg⟩).length := by
        show (toldP s.data.toList zs ⟨xt, xg⟩).toArray.size = _
        simp
      have KW := hid (writeString_any q q _ ⟨(toldP s.data.toList zs ⟨xt, xg⟩).toArray⟩ w2 HB2.out (by
        have h1 := HLN.out
        have h2 := HLE.out
        rw [HT.out, List.length_append] at h2
        rw [hsz]
        omega) (by have := lt_of_hd HB2.out; omega))
      clear hsz
      go_wp2_with fail
      refine KW.out.mono ?_
      rintro e w3 ⟨rfl, hd3, b3, _⟩
      have T3 := hid (T2.out.down b3 HQ.out)
      have HB3 := hid hd3
      clear KW hd3 b3 T2 HB2
      go_wp2
      go_roundg (gk - 1)
      case measure => omega
      case rel => exact ⟨k + 1, by omega, by go_num, hid (by rw [HT.out]; exact HB3.out), T3⟩
    · obtain rfl : k = l.length := by omega
      rw [List.take_length] at HB
      have KS := hid (string_any q q _ wr HB.out (by have := lt_of_hd HB.out; omega))
      go_wp2_with fail
      refine KS.out.mono ?_
      rintro e w1 ⟨rfl, b1⟩
      have T1 := hid (TW.out.down b1 HQ.out)
      clear b1 KS
      go_wp2
      go_ret
      exact ⟨rfl, T1.out⟩
end Go.Proofs.YtnohikoeaepfpaaDoor

/- Templates: that the program speaks; condition: the errors' values lie there. -/
namespace Go.Proofs.YtnohikoeaepfpaaDoor
open Go.RowKit
open Go.Lib

def spL : List Pc := [⟨[60], -1⟩, ⟨[], 1⟩, ⟨[36, 62], -1⟩]
theorem sp_parse : parseP [[], []] [60, 36, 49, 36, 36, 62] = (spL, 0, 0) := rfl
theorem sp_exp : expP [97, 98] [0, 2, 1, 2] spL = [60, 98, 36, 62] := rfl
theorem OwE.low {W0 W1 wr : World} {e : TypeId} {v : Value} {s : List Pc} (h : OwE W1 wr e v s) (t : Touch (fun _ => False) W0 W1) : OwE W0 wr e v s :=
  ⟨h.own, fun g hg => by have := h.new g hg; have := t.size; omega, t.trans h.touch (fun _ _ e => e)⟩
set_option maxRecDepth 100000 in
set_option maxHeartbeats 4000000 in
theorem speaks_yes (w : World) (hx : Sx w) : Calls Tryd.prog 6 #[] w fun e w' => e = .returned (.bool true) ∧ Touch (fun _ => False) w w' := by
  have T0 := hid ((Touch.refl (fun _ => False) w).alloc (.cells #[.string ⟨#[]⟩, .string ⟨#[]⟩] 9))
  have B0 := hid (two_new (w := w) (.string ⟨#[]⟩) (.string ⟨#[]⟩) 9)
  have X0 := hid (hx.new T0.out)
  clear hx
  go_enter Tryd.func6, Tryd.ntmps6
  go_wp2_with fail
  generalize w.alloc (.cells #[.string ⟨#[]⟩, .string ⟨#[]⟩] 9) = w0 at *
  generalize w.heap.size = q at *
  have N0 := hid (show Nl w0 (.slice (some ⟨q, 0, none⟩) 2 2) [[], []] from ⟨_, _, rfl, .inr ⟨q, 0, rfl, lt_of_block B0.out, fun j hj => by
    have hj' : j < 2 := hj
    match j, hj' with
    | 0, _ => exact cell_two0 B0.out
    | 1, _ => exact cell_two1 B0.out⟩⟩)
  have KP := hid (parse_any ⟨#[60, 36, 49, 36, 36, 62]⟩ _ [[], []] w0 (by decide) N0.out (by decide) X0.out)
  rw [show (⟨#[60, 36, 49, 36, 36, 62]⟩ : ByteArray).data.toList = [60, 36, 49, 36, 36, 62] from rfl, sp_parse] at KP
  dsimp only at KP
  refine KP.out.mono ?_
  rintro e w1 ⟨v1, rfl, ow1⟩
  have OW1 := hid (ow1.low T0.out)
  clear KP ow1 N0 B0 X0 T0
  obtain ⟨a1, c1, hv1, hr1⟩ := OW1.out.rg
  subst hv1
  have R1 := hid hr1
  clear hr1
  go_upto_region 2 with fail
  have OW2 := hid (OW1.out.still ((Touch.refl _ _).alloc (.cells #[.int .i64 0, .int .i64 0] 27)))
  have R2 := hid (R1.out.new ((Touch.refl _ _).alloc (.cells #[.int .i64 0, .int .i64 0] 27)))
  have F2 := hid (two_new (w := w1) (.int .i64 0) (.int .i64 0) 27)
  generalize w1.alloc (.cells #[.int .i64 0, .int .i64 0] 27) = w2 at *
  generalize w1.heap.size = q1 at *
  clear OW1 R1
  have f0 := cell_two0 F2.out
  have f1 := cell_two1 F2.out
  have T3 := hid (OW2.out.touch.alloc (.cells #[.int .i64 0, .int .i64 2, .int .i64 1, .int .i64 2] 3))
  have R3 := hid (R2.out.new ((Touch.refl _ _).alloc (.cells #[.int .i64 0, .int .i64 2, .int .i64 1, .int .i64 2] 3)))
  have B3 := hid (new_block w2 #[.int .i64 0, .int .i64 2, .int .i64 1, .int .i64 2] 3)
  go_wp2_with fail
  generalize w2.alloc (.cells #[.int .i64 0, .int .i64 2, .int .i64 1, .int .i64 2] 3) = w3 at *
  generalize w2.heap.size = q2 at *
  have I3 := hid (show Il w3 (.slice (some ⟨q2, 0, none⟩) 4 4) [0, 2, 1, 2] from ⟨_, _, rfl, .inr ⟨q2, 0, rfl, lt_of_block B3.out, fun j hj => by
    have hj' : j < 4 := hj
    have hb := B3.out
    match j, hj' with
    | 0, _ => simp [World.cell?, hb]
    | 1, _ => simp [World.cell?, hb]
    | 2, _ => simp [World.cell?, hb]
    | 3, _ => simp [World.cell?, hb]⟩⟩)
  have KE := hid (expand_any spL ⟨#[97, 98]⟩ _ [0, 2, 1, 2] w3 a1 c1 R3.out I3.out (by decide) (by decide) (by
    rw [show (⟨#[97, 98]⟩ : ByteArray).data.toList = [97, 98] from rfl, sp_exp]
    decide))
  rw [show (⟨#[97, 98]⟩ : ByteArray).data.toList = [97, 98] from rfl, sp_exp] at KE
  unfold sv at KE
  refine KE.out.mono ?_
  rintro e w4 ⟨rfl, t4⟩
  have T4 := hid (T3.out.trans t4 (fun _ _ e => e))
  clear KE t4
  go_wp2
  go_ret
  exact ⟨rfl, T4.out⟩
end Go.Proofs.YtnohikoeaepfpaaDoor

/- same of the Templ laws: the same pieces are the same; no condition. -/
namespace Go.Proofs.YtnohikoeaepfpaaDoor
open Go.RowKit
set_option maxRecDepth 100000 in
set_option maxHeartbeats 4000000 in
theorem same_any (l : List Pc) (a b : Option Addr) (ca cb : Nat) (w : World) (h1 : Rg w a l) (h2 : Rg w b l) (hl : l.length ≤ 1048576) :
    Calls Tryd.prog 11 #[.slice a l.length ca, .slice b l.length cb] w fun e w' => e = .returned (.bool true) ∧ Touch (fun _ => False) w w' := by
  have R1 := hid h1
  have R2 := hid h2
  clear h1 h2
  go_enter Tryd.func11, Tryd.ntmps11
  go_wp2_with fail
  go_loopg [5] l.length (fun gk v5 wr => ∃ k : Nat, k + gk = l.length ∧ v5 = .int .i64 (k : Nat) ∧ Touch (fun _ => False) w wr)
  case atStart => exact ⟨0, by omega, rfl, Touch.refl _ _⟩
  case round =>
    obtain ⟨k, hk, rfl, ht⟩ := hrel
    have TR := hid ht
    clear ht
    by_cases hlt : k < l.length
    · obtain ⟨b1, o1, ha, hbl, hcell⟩ : ∃ b o, a = some ⟨b, o, none⟩ ∧ b < wr.heap.size ∧ ∀ i (h : i < l.length), wr.cell? ⟨b, o + i * 2, none⟩ = some (sv (l[i]).t) ∧ wr.cell? ⟨b, o + i * 2 + 1, none⟩ = some (gv (l[i]).g) := by
        rcases R1.out.new TR.out with h | h
        · rw [h] at hlt; simp at hlt
        · exact h
      subst ha
      obtain ⟨b4, o4, ha4, hbl4, hcell4⟩ : ∃ b' o, b = some ⟨b', o, none⟩ ∧ b' < wr.heap.size ∧ ∀ i (h : i < l.length), wr.cell? ⟨b', o + i * 2, none⟩ = some (sv (l[i]).t) ∧ wr.cell? ⟨b', o + i * 2 + 1, none⟩ = some (gv (l[i]).g) := by
        rcases R2.out.new TR.out with h | h
        · rw [h] at hlt; simp at hlt
        · exact h
      subst ha4
      obtain ⟨d0, d1⟩ := hcell k hlt
      obtain ⟨f0, f1⟩ := hcell4 k hlt
      obtain ⟨r, hr⟩ : ∃ r, r = l[k] := ⟨_, rfl⟩
      rw [← hr] at d0 d1 f0 f1
      obtain ⟨y, z⟩ := r
      dsimp only at d0 d1 f0 f1
      unfold sv at d0 f0
      unfold gv at d1 f1
      have hkI : (k : Int) < (l.length : Int) := by omega
      clear hcell hcell4 hr
      go_wp2_with fail
      go_quiet (fail)
      go_wp2
      go_roundg (gk - 1)
      case measure => omega
      case rel => exact ⟨k + 1, by omega, by go_num, TR.out.drewN _⟩
    · obtain rfl : k = l.length := by omega
      go_wp2
      go_ret
      exact ⟨rfl, TR.out⟩
end Go.Proofs.YtnohikoeaepfpaaDoor
