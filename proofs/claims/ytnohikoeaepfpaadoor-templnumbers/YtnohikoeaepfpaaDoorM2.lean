/- Texts of this proof, one behind the other: what each says stands ahead of it. -/
import Derived.Test.YtnohikoeaepfpaaDoorM1
import Derived.Test.YtnohikoeaepfpaaDoorCards
import Derived.Test.YtnohikoeaepfpaaDoorTie
import Derived.WalkKit
import Derived.ProofKit
import Derived.OpenShut
import Derived.ShutString
import Derived.Below
import Derived.Carry
import Derived.ChangeArms
import Derived.ChangeSame
import Derived.ChangeOld
import Derived.Deep.Slices
import Derived.Lib.SmallJoins
import Derived.Deep.DeepHandedRow
import Derived.Deep.DeepWitnessRowRef
import Derived.Lib.LaidTab
import Derived.Stop.LaidErr
import Derived.FnData
import Derived.SevenTiedAt
import Derived.LaidLaws
/- Templates: digits, number, called, sign, first; conditions: the text is of at most 1024 bytes, the errors' values lie there. -/
namespace Go.Proofs.YtnohikoeaepfpaaDoor
open Go.RowKit
open Go.Lib

theorem dg_drop (G : Nat) (s : ByteArray) (i : Nat) (h : i < s.size) : dg (G + 1) (s.data.toList.drop i) = if digB s[i] = true then dg G (s.data.toList.drop (i + 1)) + 1 else 0 := by
  rw [byte_at s i h, dg]
set_option maxRecDepth 100000 in
set_option maxHeartbeats 4000000 in
theorem digits_any (s : ByteArray) (hs : s.size ≤ 4096) (w : World) :
    Calls Tryd.prog 28 #[.string s] w fun e w' => e = .returned (.int .i64 (dg 4 s.data.toList : Nat)) ∧ w = w' := by
  obtain ⟨X, hX⟩ : ∃ X, X = dg 4 s.data.toList := ⟨_, rfl⟩
  have HX := hid hX.symm
  rw [← hX]
  clear hX
  go_enter Tryd.func28, Tryd.ntmps28
  go_wp2_with fail
  go_loopg [3] 4 (fun gk v3 wq => ∃ i : Nat, i + gk = 4 ∧ i ≤ s.size ∧ v3 = .int .i64 (i : Nat) ∧ Hid (i + dg gk (s.data.toList.drop i) = X) ∧ w = wq)
  case atStart => exact ⟨0, by omega, by omega, rfl, hid (by rw [List.drop_zero, Nat.zero_add]; exact HX.out), rfl⟩
  case round =>
    obtain ⟨i, hi, his, rfl, HD, rfl⟩ := hrel
    by_cases hlt : i < s.size ∧ i < 4
    · obtain ⟨hl1, hl2⟩ := hlt
      obtain ⟨G, rfl⟩ : ∃ G, gk = G + 1 := ⟨gk - 1, by omega⟩
      have hltI : (i : Int) < (s.size : Int) := by omega
      have hltM : (i : Int) < min (s.size : Int) 4 := by omega
      rw [dg_drop G s i hl1] at HD
      have HDG := hid (dig_iff s[i])
      obtain ⟨x, hxe⟩ : ∃ x : Nat, x = s[i].toNat := ⟨_, rfl⟩
      have hbg : s[i].toNat = x := hxe.symm
      rw [hbg] at HDG
      clear hxe
      by_cases hd : digB s[i] = true
      · rw [if_pos hd] at HD
        have hr := HDG.out.1 hd
        have h1 : (48 : Int) ≤ (x : Int) := by omega
        have h2 : (x : Int) ≤ 57 := by omega
        clear hd
        go_wp2
        go_roundg G
        case measure => omega
        case rel => exact ⟨i + 1, by omega, by omega, by go_num, hid (by have := HD.out; omega), rfl⟩
      · rw [if_neg hd, Nat.add_zero] at HD
        have HNR := hid (show ¬ (48 ≤ x ∧ x ≤ 57) from fun h => hd (HDG.out.2 h))
        clear hd
        by_cases h1 : (48 : Int) ≤ (x : Int)
        · have h2 : ¬ (x : Int) ≤ 57 := by
            have := HNR.out
            omega
          go_wp2
          go_ret
          exact ⟨by rw [HD.out]; rfl, rfl⟩
        · go_wp2
          go_ret
          exact ⟨by rw [HD.out]; rfl, rfl⟩
    · have hltM : ¬ (i : Int) < min (s.size : Int) 4 := by omega
      have HE := hid (show i = X from by
        have := HD.out
        by_cases h4 : i < 4
        · obtain rfl : i = s.size := by omega
          rw [drop_all, dg_nil] at this
          exact this
        · obtain rfl : gk = 0 := by omega
          exact this)
      clear HD
      go_wp2
      go_ret
      exact ⟨by rw [HE.out]; rfl, rfl⟩

/-- The value that the library tells of a text that is no number lies where it was laid. -/
def Sx (w : World) : Prop := 1 < w.heap.size ∧ ∃ ev, w.cell? ⟨1, 0, none⟩ = some ev ∧ (ev = .nilIface ∨ ∃ te pe, ev = .iface te pe)
theorem Sx.new {w w' : World} (h : Sx w) (t : Touch (fun _ => False) w w') : Sx w' := by
  obtain ⟨h1, ev, h2, h3⟩ := h
  exact ⟨Nat.lt_of_lt_of_le h1 t.size, ev, by rw [t.cell (p := ⟨1, 0, none⟩) h1 id]; exact h2, h3⟩
theorem dec_val : ∀ (cs : Bs) (n : Nat), (∀ c ∈ cs, digB c = true) → decFrom n cs = some (cs.foldl of10 n)
  | [], _, _ => rfl
  | c :: cs, n, h => by
    have hc := (dig_iff c).1 (h c (by simp))
    have ih := dec_val cs (n * 10 + (c.toNat - 48)) (fun x hx => h x (by simp [hx]))
    have e : digitVal c = some (c.toNat - 48) := by unfold digitVal; rw [if_pos hc]
    unfold decFrom
    rw [e]
    dsimp only
    rw [ih, List.foldl_cons]
    unfold of10
    rw [Nat.mul_comm n 10]
theorem atoi_dig (cs : Bs) (h0 : cs ≠ []) (h : ∀ c ∈ cs, digB c = true) : atoi cs = some ((val10 cs : Nat) : Int) := by
  cases cs with
  | nil => exact absurd rfl h0
  | cons c cs =>
    have hc := (dig_iff c).1 (h c (by simp))
    have n1 : (c == 45) = false := by
      rw [beq_eq_false_iff_ne]
      rintro rfl
      exact absurd hc.1 (by decide)
    have n2 : (c == 43) = false := by
      rw [beq_eq_false_iff_ne]
      rintro rfl
      exact absurd hc.1 (by decide)
    unfold atoi
    dsimp only
    rw [n1, n2]
    unfold decNat
    rw [dec_val _ 0 h]
    rfl
/-- What digits tell; -1: there are none. -/
def numV (cs : Bs) : Int := if cs = [] then -1 else (val10 cs : Nat)
set_option maxRecDepth 100000 in
set_option maxHeartbeats 4000000 in
theorem number_any (s : ByteArray) (hs : s.size ≤ 4) (hd : ∀ c ∈ s.data.toList, digB c = true) (w : World) (hx : Sx w) :
    Calls Tryd.prog 29 #[.string s] w fun e w' => e = .returned (.int .i64 (numV s.data.toList)) ∧ Touch (fun _ => False) w w' := by
  by_cases h0 : s.data.toList = []
  · obtain ⟨_, ev, hv, hev⟩ := hx
    have K := hid (Any.strconv_Atoi_err Tryd.laysC172 s (by omega) (by rw [h0]; rfl) ev w hv hev)
    change Hid (Calls Tryd.prog 35 #[.string s] w fun e w' => ∃ N, e = .returned (.tuple #[.int .i64 0, .iface 78 (.pointer (some ⟨N, 0, none⟩))]) ∧ w.heap.size ≤ N ∧ w'.heap[N]? = some (.cells #[.string ⟨#[65, 116, 111, 105]⟩, .string s, ev] 89 (0, 0)) ∧ Below w.heap.size w w') at K
    rw [show numV s.data.toList = -1 from if_pos h0]
    clear hv hev h0 hd
    go_enter Tryd.func29, Tryd.ntmps29
    go_wp2_with fail
    refine K.out.mono ?_
    rintro e w1 ⟨N, rfl, _, _, b1⟩
    have T1 := hid (Below.touch b1)
    clear K b1
    go_wp2
    go_ret
    exact ⟨rfl, T1.out⟩
  · have K := hid (Any.strconv_Atoi Tryd.lays172 s (val10 s.data.toList : Nat) (by omega) (atoi_dig _ h0 hd) w)
    change Hid (Calls Tryd.prog 35 #[.string s] w fun e w' => e = .returned (.tuple #[.int .i64 (val10 s.data.toList : Nat), .nilIface]) ∧ ∃ t, w' = Lib.bytesWorld w 5 t) at K
    rw [show numV s.data.toList = (val10 s.data.toList : Nat) from if_neg h0]
    clear hx h0 hd
    generalize val10 s.data.toList = V at *
    go_enter Tryd.func29, Tryd.ntmps29
    go_wp2_with fail
    refine K.out.mono ?_
    rintro e w1 ⟨rfl, t, rfl⟩
    have T2 := hid (Below.touch (Go.Joins.below_bytesWorld w.heap.size w 5 t (Nat.le_refl _)))
    clear K
    go_wp2
    go_ret
    exact ⟨rfl, T2.out⟩
end Go.Proofs.YtnohikoeaepfpaaDoor

/- What the frames of the Templ laws lean on: the library's variables; no condition. -/
namespace Go.Proofs.YtnohikoeaepfpaaDoor
open Go.ChangeShapes Go.WideShapes Go.ChangeAt Go.RowKit
theorem own : ownKnob Tryd.prog.godebug = none := by kernel_rfl
theorem gES : Tryd.prog.globalNamed "strconv.ErrSyntax" = some 1 := by kernel_rfl
theorem gESType : (Tryd.prog.globals[1]?).map (·.type) = some 50 := by kernel_rfl
theorem cells94 : Tryd.prog.cellsOf 94 = 1 := by kernel_rfl
theorem cells9 : Tryd.prog.cellsOf 9 = 1 := by kernel_rfl
theorem star : "*" ++ "errors.errorString" = "*errors.errorString" := by decide
theorem row92 (u : TypeId) (h : Tryd.prog.typeName? 3 u = some "*errors.errorString") : u = 92 :=
  typeName_ptr_named (nm := "errors.errorString") (by rw [star]; kernel_rfl) (by kernel_rfl) (by decide) u (by rw [star]; exact h)
theorem sx_of {W : World} (h : laidMet Tryd.prog Rows.templPlainRow.laid W) : Sx W := by
  have h5 := h.tail.tail.tail.tail
  obtain ⟨a, s, hv, -, -, -⟩ := laid_sentinel h5 gES gESType Tryd.underlying50 row92 Tryd.underlying92 Tryd.underlying94 rfl rfl Tryd.underlying9 cells94 cells9
  have h0 := World.var?_cell gES hv 0
  have hc : W.cell? ⟨1, 0, none⟩ = some (.iface 92 (.pointer (some a))) := by simpa using h0
  refine ⟨?_, _, hc, .inr ⟨_, _, rfl⟩⟩
  rcases Nat.lt_or_ge 1 W.heap.size with h1 | h1
  · exact h1
  · unfold World.cell? at hc
    rw [Array.getElem?_eq_none h1] at hc
    cases hc
/-- A block that holds other cells. -/
def setC (cs : Array Value) : Obj → Obj
  | .cells _ t frozen => .cells cs t frozen
  | o => o
def pow10C : Array Value := #[.int .u64 1, .int .u64 10, .int .u64 100, .int .u64 1000, .int .u64 10000, .int .u64 100000, .int .u64 1000000, .int .u64 10000000, .int .u64 100000000, .int .u64 1000000000, .int .u64 10000000000, .int .u64 100000000000, .int .u64 1000000000000, .int .u64 10000000000000, .int .u64 100000000000000, .int .u64 1000000000000000, .int .u64 10000000000000000, .int .u64 100000000000000000, .int .u64 1000000000000000000, .int .u64 10000000000000000000]
def tab32C : Array Value := #[.int .u8 0, .int .u8 1, .int .u8 28, .int .u8 2, .int .u8 29, .int .u8 14, .int .u8 24, .int .u8 3, .int .u8 30, .int .u8 22, .int .u8 20, .int .u8 15, .int .u8 25, .int .u8 17, .int .u8 4, .int .u8 8, .int .u8 31, .int .u8 27, .int .u8 13, .int .u8 23, .int .u8 21, .int .u8 19, .int .u8 16, .int .u8 7, .int .u8 26, .int .u8 12, .int .u8 18, .int .u8 6, .int .u8 11, .int .u8 5, .int .u8 10, .int .u8 9]
def tab64C : Array Value := #[.int .u8 0, .int .u8 1, .int .u8 56, .int .u8 2, .int .u8 57, .int .u8 49, .int .u8 28, .int .u8 3, .int .u8 61, .int .u8 58, .int .u8 42, .int .u8 50, .int .u8 38, .int .u8 29, .int .u8 17, .int .u8 4, .int .u8 62, .int .u8 47, .int .u8 59, .int .u8 36, .int .u8 45, .int .u8 43, .int .u8 51, .int .u8 22, .int .u8 53, .int .u8 39, .int .u8 33, .int .u8 30, .int .u8 24, .int .u8 18, .int .u8 12, .int .u8 5, .int .u8 63, .int .u8 55, .int .u8 48, .int .u8 27, .int .u8 60, .int .u8 41, .int .u8 37, .int .u8 16, .int .u8 46, .int .u8 35, .int .u8 44, .int .u8 21, .int .u8 52, .int .u8 32, .int .u8 23, .int .u8 11, .int .u8 54, .int .u8 26, .int .u8 40, .int .u8 15, .int .u8 34, .int .u8 20, .int .u8 31, .int .u8 10, .int .u8 25, .int .u8 14, .int .u8 19, .int .u8 9, .int .u8 13, .int .u8 8, .int .u8 7, .int .u8 6]
/-- So many blocks has the settled world. -/
noncomputable def low : Nat := (World.holding Tryd.prog default ⟨#[], #[], []⟩).heap.size
def errAt (b : Nat) : Array Value := #[.iface 92 (.pointer (some ⟨b, 0, none⟩))]
/-- A world for the witness: the settled one with two blocks more, the sentinels' texts; the five variables holding what their initialisers lay. -/
noncomputable def laidWorld (os : Os) : World :=
  let w0 := World.holding Tryd.prog os ⟨#[.cells #[.string ⟨#[105, 110, 118, 97, 108, 105, 100, 32, 115, 121, 110, 116, 97, 120]⟩] 94, .cells #[.string ⟨#[118, 97, 108, 117, 101, 32, 111, 117, 116, 32, 111, 102, 32, 114, 97, 110, 103, 101]⟩] 94], #[], []⟩
  { w0 with heap := ((((w0.heap.modify 1 (setC (errAt low))).modify 2 (setC (errAt (low + 1)))).modify 3 (setC pow10C)).modify 4 (setC tab32C)).modify 5 (setC tab64C) }
end Go.Proofs.YtnohikoeaepfpaaDoor

/- Templates: called, sign; conditions: the text is of at most 4096 bytes, the errors' values lie there. -/
namespace Go.Proofs.YtnohikoeaepfpaaDoor
open Go.RowKit
open Go.Lib

theorem list_ne {d : ByteArray} (h : d.data.toList ≠ []) : d.toList.isEmpty = false := by
  rw [Bool.eq_false_iff]
  intro e
  rw [List.isEmpty_iff, toList_data] at e
  exact h e
set_option maxRecDepth 100000 in
set_option maxHeartbeats 4000000 in
theorem called_any (s : ByteArray) (v : Value) (ns : List Bs) (w : World) (hs : s.size ≤ 4096) (hN : Nl w v ns) (hn : ns.length ≤ 140737488355328) (hx : Sx w) :
    Calls Tryd.prog 27 #[.string s, v] w fun e w' => e = .returned (.int .i64 (idxV (calledP ns s.data.toList))) ∧ Touch (fun _ => False) w w' := by
  unfold calledP
  by_cases h0 : s.data.toList = []
  · rw [if_pos h0]
    have hs0 : s.toList = [] := by rw [toList_data]; exact h0
    have hse : s.toList.isEmpty = true := by rw [hs0]; rfl
    obtain ⟨a, c, rfl, _⟩ := hN
    clear h0 hx
    go_enter Tryd.func27, Tryd.ntmps27
    go_wp2
    go_ret
    exact ⟨rfl, Touch.refl _ _⟩
  · rw [if_neg h0]
    have hs0 : ¬ s.toList = [] := by rw [toList_data]; exact h0
    have hse := list_ne h0
    have K1 := hid (digits_any s hs w)
    have hle := (dg_le 4 s.data.toList)
    rw [size_list] at hle
    by_cases hd : dg 4 s.data.toList = s.data.toList.length
    · rw [if_pos hd]
      have hall : ∀ c ∈ s.data.toList, digB c = true := by
        have := dg_dig 4 s.data.toList
        rw [hd, List.take_length] at this
        exact this
      rw [size_list] at hd
      rw [hd] at hle K1
      have K2 := hid (number_any s (by omega) hall w hx)
      rw [show numV s.data.toList = (val10 s.data.toList : Nat) from if_neg h0] at K2
      unfold idxV
      dsimp only
      generalize val10 s.data.toList = V at *
      obtain ⟨a, c, rfl, _⟩ := hN
      clear h0 hx hall hd
      go_enter Tryd.func27, Tryd.ntmps27
      go_wp2_with fail
      refine K1.out.mono ?_
      rintro e w1 ⟨rfl, rfl⟩
      clear K1
      go_wp2_with fail
      refine K2.out.mono ?_
      rintro e w1 ⟨rfl, t1⟩
      have T1 := hid t1
      clear K2 t1
      go_wp2
      go_ret
      exact ⟨rfl, T1.out⟩
    · rw [if_neg hd]
      rw [size_list] at hd
      have K2 := hid (called_index s v ns w hN hn)
      generalize idxV (idxN s.data.toList ns) = V at *
      generalize dg 4 s.data.toList = D at *
      have hdI : ¬ (D : Int) = (s.size : Int) := by omega
      have hdB : ((D : Int) == (s.size : Int)) = false := beq_eq_false_iff_ne.2 hdI
      obtain ⟨a, c, rfl, _⟩ := hN
      clear h0 hx hd
      go_enter Tryd.func27, Tryd.ntmps27
      go_wp2_with fail
      refine K1.out.mono ?_
      rintro e w1 ⟨rfl, rfl⟩
      clear K1
      go_wp2_with fail
      refine K2.out.mono ?_
      rintro e w1 ⟨rfl, rfl⟩
      clear K2
      go_wp2
      go_ret
      exact ⟨rfl, Touch.refl _ _⟩

/-- What sign tells. -/
def Sg : Option (Nat × Nat) → Int → Int → Prop
  | some (a, b), g, n => g = (a : Int) ∧ n = (b : Int)
  | none, g, _ => g = -1
theorem ext_take (s : ByteArray) (k : Nat) : (s.extract 0 k).data.toList = s.data.toList.take k := by
  rw [ext_list, List.drop_zero, Nat.sub_zero]
set_option maxRecDepth 100000 in
set_option maxHeartbeats 4000000 in
theorem sign_any (s : ByteArray) (r : Bs) (v : Value) (ns : List Bs) (w : World) (hs : s.size ≤ 4096) (hr : s.data.toList = 36 :: r) (hN : Nl w v ns) (hn : ns.length ≤ 140737488355328) (hx : Sx w) :
    Calls Tryd.prog 21 #[.string s, v] w fun e w' => ∃ g n, e = .returned (.tuple #[.int .i64 g, .int .i64 n]) ∧ Sg (signP ns r) g n ∧ Touch (fun _ => False) w w' := by
  have hsz : s.size = r.length + 1 := by rw [← size_list, hr]; rfl
  have K0 := cutPrefix_any s ⟨#[36, 123]⟩ w
  by_cases hp : ∃ q, r = 123 :: q
  · obtain ⟨q, rfl⟩ := hp
    have e1 : ([36, 123] : Bs).isPrefixOf s.data.toList = true := by rw [hr]; rfl
    have e2 : s.data.toList.drop 2 = q := by rw [hr]; rfl
    change Calls Tryd.prog 25 #[.string s, .string ⟨#[36, 123]⟩] w (fun e w' => e = .returned (.tuple #[.string ⟨(if ([36, 123] : Bs).isPrefixOf s.data.toList = true then s.data.toList.drop 2 else s.data.toList).toArray⟩, .bool (([36, 123] : Bs).isPrefixOf s.data.toList)]) ∧ w' = w) at K0
    rw [e1, if_pos rfl, e2] at K0
    have K0 := hid K0
    obtain ⟨Q, hQ⟩ : ∃ Q : ByteArray, Q = ⟨q.toArray⟩ := ⟨_, rfl⟩
    have hQl : Q.data.toList = q := by rw [hQ]
    rw [← hQ] at K0
    have hQs : Q.size = q.length := by rw [← size_list, hQl]
    rw [List.length_cons] at hsz
    have K1 := hid (cut_any Q w (by omega))
    rw [signP, if_pos rfl]
    unfold cutV at K1
    rw [hQl] at K1
    cases hk : idxOf 125 q with
    | none =>
      rw [hk] at K1
      dsimp only at K1 ⊢
      obtain ⟨a, c, rfl, _⟩ := hN
      clear hx e1 e2 hQl hQ hr hk hsz hQs
      go_enter Tryd.func21, Tryd.ntmps21
      go_wp2_with fail
      refine K0.out.mono ?_
      rintro e w1 ⟨rfl, rfl⟩
      clear K0
      go_wp2_with fail
      refine K1.out.mono ?_
      rintro e w1 ⟨rfl, t1⟩
      have T1 := hid t1
      clear K1 t1
      go_wp2
      refine bodyPost_ret (results_tmp2 rfl _ _ _) rfl ?_
      exact ⟨_, _, rfl, rfl, T1.out⟩
    | some k =>
      rw [hk] at K1
      dsimp only at K1 ⊢
      have hlt := idx_lt hk
      have hnl : (Q.extract 0 k).data.toList = q.take k := by rw [ext_take, hQl]
      have hns : (Q.extract 0 k).size = k := by rw [ByteArray.size_extract]; omega
      have K2 := hid (fun w' (t : Touch (fun _ => False) w w') => called_any (Q.extract 0 k) v ns w' (by omega) (hN.new t) hn (hx.new t))
      rw [hnl] at K2
      obtain ⟨a, c, rfl, _⟩ := hN
      generalize Q.extract 0 k = nm at *
      have HC := hid (show ∀ g n, g = idxV (calledP ns (q.take k)) → n = ((k + 3 : Nat) : Int) → Sg ((calledP ns (q.take k)).map fun g => (g, k + 3)) g n from by
        intro g n hg hn'
        subst hg hn'
        cases calledP ns (q.take k) with
        | none => exact rfl
        | some g => exact ⟨rfl, rfl⟩)
      generalize (calledP ns (q.take k)).map (fun g => (g, k + 3)) = S at *
      generalize idxV (calledP ns (q.take k)) = V at *
      have hkb : k ≤ 4096 := by omega
      clear hx e1 e2 hQl hQ hr hk hnl hlt hsz hQs
      go_enter Tryd.func21, Tryd.ntmps21
      go_wp2_with fail
      refine K0.out.mono ?_
      rintro e w1 ⟨rfl, rfl⟩
      clear K0
      go_wp2_with fail
      refine K1.out.mono ?_
      rintro e w1 ⟨rfl, t1⟩
      have T1 := hid t1
      clear K1 t1
      go_wp2_with fail
      refine (K2.out w1 T1.out).mono ?_
      rintro e w2 ⟨rfl, t2⟩
      have T2 := hid (T1.out.trans t2 (fun _ _ e => e))
      clear K2 t2 T1
      go_wp2
      refine bodyPost_ret (results_tmp2 rfl _ _ _) rfl ?_
      exact ⟨_, _, rfl, HC.out _ _ rfl (by omega), T2.out⟩
  · have e1 : ([36, 123] : Bs).isPrefixOf s.data.toList = false := by
      rw [hr]
      cases r with
      | nil => rfl
      | cons x q =>
        have hne : x ≠ 123 := fun e => hp ⟨q, by rw [e]⟩
        simp [List.isPrefixOf, hne.symm]
    change Calls Tryd.prog 25 #[.string s, .string ⟨#[36, 123]⟩] w (fun e w' => e = .returned (.tuple #[.string ⟨(if ([36, 123] : Bs).isPrefixOf s.data.toList = true then s.data.toList.drop 2 else s.data.toList).toArray⟩, .bool (([36, 123] : Bs).isPrefixOf s.data.toList)]) ∧ w' = w) at K0
    rw [e1, if_neg (by decide), show (⟨s.data.toList.toArray⟩ : ByteArray) = s from rfl] at K0
    have K0 := hid K0
    have hd1 : (s.extract 1 s.size).data.toList = r := by rw [ext_end, hr]; rfl
    have K1 := hid (digits_any (s.extract 1 s.size) (by rw [ByteArray.size_extract]; omega) w)
    rw [hd1] at K1
    have hle := dg_le 4 r
    have hd2 : (s.extract 1 (1 + dg 4 r)).data.toList = r.take (dg 4 r) := by rw [ext_list, hr, Nat.add_sub_cancel_left]; rfl
    have K2 := hid (number_any (s.extract 1 (1 + dg 4 r)) (by rw [ByteArray.size_extract]; omega) (by rw [hd2]; exact dg_dig 4 r) w hx)
    rw [hd2] at K2
    have HS := hid (show ∀ g n, g = numV (r.take (dg 4 r)) → n = ((1 + dg 4 r : Nat) : Int) → Sg (signP ns r) g n from by
      intro g n hg hn'
      subst hg hn'
      cases r with
      | nil => exact rfl
      | cons x q =>
        have hne : x ≠ 123 := fun e => hp ⟨q, by rw [e]⟩
        rw [signP, if_neg hne]
        unfold numV
        by_cases h0 : dg 4 (x :: q) = 0
        · rw [if_pos h0, h0]
          exact rfl
        · rw [if_neg h0, if_neg (fun e => h0 (by
            have := congrArg List.length e
            rw [List.length_take, List.length_nil] at this
            simp only [List.length_cons] at this hle
            omega))]
          exact ⟨rfl, rfl⟩)
    generalize signP ns r = S at *
    generalize numV (r.take (dg 4 r)) = V at *
    generalize dg 4 r = D at *
    have hD : (1 : Int) + (D : Int) ≤ (s.size : Int) := by omega
    have h1s : (1 : Int) ≤ (s.size : Int) := by omega
    have hDn : ((1 : Int) + (D : Int)).toNat = 1 + D := by omega
    obtain ⟨a, c, rfl, _⟩ := hN
    have hD4 : D ≤ 4 := hle.1
    have h1D : (1 : Int) ≤ (1 : Int) + (D : Int) := by omega
    clear hx e1 hd1 hd2 hr hp hle hsz
    go_enter Tryd.func21, Tryd.ntmps21
    go_wp2_with fail
    refine K0.out.mono ?_
    rintro e w1 ⟨rfl, rfl⟩
    clear K0
    go_wp2_with fail
    refine K1.out.mono ?_
    rintro e w1 ⟨rfl, rfl⟩
    clear K1
    go_wp2_with fail
    refine K2.out.mono ?_
    rintro e w2 ⟨rfl, t2⟩
    have T2 := hid t2
    clear K2 t2
    go_wp2
    refine bodyPost_ret (results_tmp2 rfl _ _ _) rfl ?_
    exact ⟨_, _, rfl, HS.out _ _ rfl (by omega), T2.out⟩
end Go.Proofs.YtnohikoeaepfpaaDoor
