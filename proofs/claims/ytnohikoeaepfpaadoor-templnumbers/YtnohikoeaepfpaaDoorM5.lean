/- Texts of this proof, one behind the other: what each says stands ahead of it. -/
import Derived.Test.YtnohikoeaepfpaaDoorM1
import Derived.ChangeKeysEq
import Derived.Test.YtnohikoeaepfpaaDoorM3
import Derived.Test.YtnohikoeaepfpaaDoorM4
/- The document's digit and group; conditions: the text is of at most 4096 bytes, the names lie in memory. -/
namespace Go.Proofs.YtnohikoeaepfpaaDoor
open Go.RowKit
open Go.Lib

def dgAt (s : ByteArray) (i : Nat) : Bool := match s.data.toList[i]? with
  | some c => digB c
  | none => false
theorem dgAt_lt (s : ByteArray) (i : Nat) (h : i < s.size) : dgAt s i = digB s[i] := by
  unfold dgAt
  rw [at_opt s i h]
theorem dgAt_ge (s : ByteArray) (i : Nat) (h : s.size ≤ i) : dgAt s i = false := by
  unfold dgAt
  rw [List.getElem?_eq_none (by rw [size_list]; exact h)]
set_option maxRecDepth 100000 in
set_option maxHeartbeats 4000000 in
theorem rdigit_any (s : ByteArray) (i : Nat) (w : World) (_hs : s.size ≤ 1048576) (_hi : i ≤ 1048576) :
    Calls Tryd.prog 17 #[.string s, .int .i64 (i : Nat)] w fun e w' => e = .returned (.bool (dgAt s i)) ∧ w = w' := by
  by_cases hlt : i < s.size
  · have hltI : (i : Int) < (s.size : Int) := by omega
    rw [dgAt_lt s i hlt]
    have HDG := hid (dig_iff s[i])
    obtain ⟨d, hd⟩ : ∃ d, d = digB s[i] := ⟨_, rfl⟩
    rw [← hd] at HDG ⊢
    clear hd
    obtain ⟨x, hxe⟩ : ∃ x : Nat, x = s[i].toNat := ⟨_, rfl⟩
    have hbg : s[i].toNat = x := hxe.symm
    rw [hbg] at HDG
    clear hxe
    by_cases h1 : (48 : Int) ≤ (x : Int)
    · by_cases h2 : (x : Int) ≤ 57
      · have HE := hid (show d = true from HDG.out.2 ⟨by omega, by omega⟩)
        go_enter Tryd.func17, Tryd.ntmps17
        go_wp2
        go_ret
        exact ⟨by rw [HE.out]; rfl, rfl⟩
      · have HE := hid (show d = false from by
          cases d with
          | false => rfl
          | true => have := HDG.out.1 rfl; omega)
        go_enter Tryd.func17, Tryd.ntmps17
        go_wp2
        go_ret
        exact ⟨by rw [HE.out]; rfl, rfl⟩
    · have HE := hid (show d = false from by
        cases d with
        | false => rfl
        | true => have := HDG.out.1 rfl; omega)
      go_enter Tryd.func17, Tryd.ntmps17
      go_wp2
      go_ret
      exact ⟨by rw [HE.out]; rfl, rfl⟩
  · have hltI : ¬ (i : Int) < (s.size : Int) := by omega
    rw [dgAt_ge s i (by omega)]
    go_enter Tryd.func17, Tryd.ntmps17
    go_wp2
    go_ret
    exact ⟨rfl, rfl⟩

theorem dg_all : ∀ (k : Nat) (cs : Bs), cs.length ≤ k → (∀ c ∈ cs, digB c = true) → dg k cs = cs.length
  | 0, [], _, _ => rfl
  | 0, c :: cs, h, _ => by simp at h
  | k + 1, [], _, _ => rfl
  | k + 1, c :: cs, h, hd => by
    rw [dg, if_pos (hd c (by simp)), dg_all k cs (by simpa using h) (fun x hx => hd x (by simp [hx])), List.length_cons]
/-- A text that is a number of a group. -/
def numB (cs : Bs) : Prop := cs ≠ [] ∧ dg 4 cs = cs.length
theorem called_num {ns : List Bs} {cs : Bs} (h : numB cs) : calledP ns cs = some (val10 cs) := by
  unfold calledP
  rw [if_neg h.1, if_pos h.2]
theorem called_name {ns : List Bs} {cs : Bs} (h : ¬ numB cs) (h0 : cs ≠ []) : calledP ns cs = idxN cs ns := by
  unfold calledP
  rw [if_neg h0, if_neg (fun e => h ⟨h0, e⟩)]
set_option maxRecDepth 100000 in
set_option maxHeartbeats 8000000 in
theorem rgroup_any (s : ByteArray) (v : Value) (ns : List Bs) (w : World) (hs : s.size ≤ 4096) (hN : Nl w v ns) (hn : ns.length ≤ 1048576) :
    Calls Tryd.prog 18 #[.string s, v] w fun e w' => e = .returned (.int .i64 (idxV (calledP ns s.data.toList))) ∧ w = w' := by
  obtain ⟨X, hX⟩ : ∃ X, X = calledP ns s.data.toList := ⟨_, rfl⟩
  have HX := hid hX
  rw [← hX]
  clear hX
  obtain ⟨a, c, rfl, hN⟩ := hN
  have HN := hid hN
  clear hN
  by_cases h0 : s.data.toList = []
  · have HNM := hid (show X = none from by rw [HX.out, h0]; rfl)
    have hs0 : s.toList = [] := by rw [toList_data]; exact h0
    have hse : s.toList.isEmpty = true := by rw [hs0]; rfl
    have hz : s.size = 0 := by rw [← size_list, h0]; rfl
    have hzI : ¬ (0 : Int) < (s.size : Int) := by omega
    clear h0 hz HX HN
    go_enter Tryd.func18, Tryd.ntmps18
    go_wp2_with fail
    go_loopg [5, 6, 7] 0 (fun gk v5 v6 v7 wr => v5 = .int .i64 0 ∧ v6 = .bool false ∧ v7 = .int .i64 0 ∧ w = wr)
    case atStart => exact ⟨rfl, rfl, rfl, rfl⟩
    case round =>
      obtain ⟨rfl, rfl, rfl, rfl⟩ := hrel
      go_wp2
      go_loopg [8] ns.length (fun gk v8 wr => ∃ i : Nat, i + gk = ns.length ∧ v8 = .int .i64 (i : Nat) ∧ w = wr)
      case atStart => exact ⟨0, by omega, rfl, rfl⟩
      case round =>
        obtain ⟨i, hi, rfl, rfl⟩ := hrel
        by_cases hlt : i < ns.length
        · have hltI : (i : Int) < (ns.length : Int) := by omega
          go_wp2
          go_roundg (gk - 1)
          case measure => omega
          case rel => exact ⟨i + 1, by omega, by go_num, rfl⟩
        · obtain rfl : i = ns.length := by omega
          go_wp2
          go_ret
          exact ⟨by rw [HNM.out]; rfl, rfl⟩
  · have hs0 : ¬ s.toList = [] := by rw [toList_data]; exact h0
    have hse : s.toList.isEmpty = false := by
      rw [Bool.eq_false_iff]
      intro e
      rw [List.isEmpty_iff, toList_data] at e
      exact h0 e
    have hp : 0 < s.size := by rw [← size_list]; exact List.length_pos_iff.2 h0
    have hpI : (0 : Int) < (s.size : Int) := by omega
    by_cases h4 : s.size ≤ 4
    · have h4I : (s.size : Int) ≤ 4 := by omega
      have KD := hid (fun i (hi : i ≤ 1048576) => rdigit_any s i w (by omega) hi)
      have H0 := hid h0
      clear h0
      go_enter Tryd.func18, Tryd.ntmps18
      go_wp2_with fail
      go_loopg [5, 6, 7] (s.size + 1) (fun gk v5 v6 v7 wr => ∃ (i : Nat) (n : Int) (b : Bool), v5 = .int .i64 n ∧ v6 = .bool b ∧ v7 = .int .i64 (i : Nat) ∧ w = wr ∧ (b = true → i + gk = s.size + 1 ∧ i ≤ s.size ∧ n = (val10 (s.data.toList.take i) : Nat) ∧ ∀ c ∈ s.data.toList.take i, digB c = true) ∧ (b = false → ¬ numB s.data.toList))
      case atStart => exact ⟨0, 0, true, rfl, rfl, rfl, rfl, fun _ => ⟨by omega, by omega, rfl, fun c hc => by simp at hc⟩, fun h => by cases h⟩
      case round =>
        obtain ⟨i, n, b, rfl, rfl, rfl, rfl, ht, hf⟩ := hrel
        cases b with
        | false =>
          have HNM := hid (show X = idxN s.data.toList ns from by rw [HX.out, called_name (hf rfl) H0.out])
          clear ht hf
          go_wp2
          go_loopg [8] ns.length (fun gk v8 wr => ∃ i : Nat, i + gk = ns.length ∧ v8 = .int .i64 (i : Nat) ∧ Hid (X = (idxN s.data.toList (ns.drop i)).map (· + i)) ∧ w = wr)
          case atStart => exact ⟨0, by omega, rfl, hid (by rw [HNM.out, List.drop_zero]; simp), rfl⟩
          case round =>
            obtain ⟨i, hi, rfl, HD, rfl⟩ := hrel
            by_cases hlt : i < ns.length
            · have hltI : (i : Int) < (ns.length : Int) := by omega
              obtain ⟨b, o, rfl, hb, hc⟩ : ∃ b o, a = some ⟨b, o, none⟩ ∧ b < w.heap.size ∧ ∀ j (h : j < ns.length), w.cell? ⟨b, o + j, none⟩ = some (sv ns[j]) := by
                rcases HN.out with h | h
                · rw [h] at hlt; simp at hlt
                · exact h
              have d0 := hc i hlt
              rw [List.drop_eq_getElem_cons hlt, idxN] at HD
              obtain ⟨x, hxe⟩ : ∃ x, x = ns[i] := ⟨_, rfl⟩
              rw [← hxe] at HD d0
              unfold sv at d0
              clear hxe hc hb
              by_cases hx : x = s.data.toList
              · rw [if_pos hx] at HD
                have hbq : (x == s.toList) = true := by rw [hx, toList_data]; simp
                clear hx
                go_wp2
                go_ret
                exact ⟨by rw [HD.out]; simp [idxV], rfl⟩
              · rw [if_neg hx] at HD
                have hbq : (x == s.toList) = false := by
                  rw [beq_eq_false_iff_ne, toList_data]
                  exact hx
                clear hx
                go_wp2
                go_roundg (gk - 1)
                case measure => omega
                case rel => exact ⟨i + 1, by omega, by go_num, hid (by
                  rw [HD.out, Option.map_map]
                  congr 1
                  funext k
                  simp only [Function.comp]
                  omega), rfl⟩
            · obtain rfl : i = ns.length := by omega
              rw [List.drop_length] at HD
              go_wp2
              go_ret
              exact ⟨by rw [HD.out]; rfl, rfl⟩
        | true =>
          obtain ⟨hig, his, rfl, hdg⟩ := ht rfl
          clear ht hf
          have hvb := val_bound 4 (s.data.toList.take i) (by rw [List.length_take, size_list]; omega) hdg
          have HA := hid hdg
          clear hdg
          by_cases hlt : i < s.size
          · have hltI : (i : Int) < (s.size : Int) := by omega
            have HTK := hid (show s.data.toList.take (i + 1) = s.data.toList.take i ++ [s[i]] from List.take_succ_eq_append_getElem (by rw [size_list]; exact hlt))
            have HM := hid (show s[i] ∈ s.data.toList from List.getElem_mem (by rw [size_list]; exact hlt))
            have K := hid (KD.out i (by omega))
            rw [dgAt_lt s i hlt] at K
            have HDG := hid (dig_iff s[i])
            have hb256 : s[i].toNat < 256 := s[i].toNat_lt
            obtain ⟨V, hV⟩ : ∃ V, V = val10 (s.data.toList.take i) := ⟨_, rfl⟩
            rw [← hV] at hvb ⊢
            have HV2 := hid hV
            obtain ⟨x, hxe⟩ : ∃ x : Nat, x = s[i].toNat := ⟨_, rfl⟩
            have hbg : s[i].toNat = x := hxe.symm
            rw [hbg] at HDG hb256
            clear hxe hV
            by_cases hd : digB s[i] = true
            · have hr := HDG.out.1 hd
              have HNV := hid (show val10 (s.data.toList.take (i + 1)) = 10 * V + (x - 48) from by rw [HTK.out, val_snoc, ← HV2.out, hbg])
              have HNA := hid (show ∀ c ∈ s.data.toList.take (i + 1), digB c = true from by
                rw [HTK.out]
                intro c hc
                rcases List.mem_append.1 hc with h | h
                · exact HA.out c h
                · simp at h; subst h; exact hd)
              rw [hd] at K
              clear hd
              go_wp2_with fail
              refine K.out.mono ?_
              rintro e w1 ⟨rfl, rfl⟩
              clear K
              go_wp2
              go_roundg (gk - 1)
              case measure => omega
              case rel => exact ⟨i + 1, _, true, rfl, rfl, by go_num, rfl, fun _ => ⟨by omega, by omega, by rw [HNV.out]; go_num, HNA.out⟩, fun h => by cases h⟩
            · have HNN := hid (show ¬ numB s.data.toList from fun h => hd (by
                have := dg_dig 4 s.data.toList
                rw [h.2, List.take_length] at this
                exact this _ HM.out))
              rw [Bool.not_eq_true] at hd
              rw [hd] at K
              clear hd
              go_wp2_with fail
              refine K.out.mono ?_
              rintro e w1 ⟨rfl, rfl⟩
              clear K
              go_wp2
              go_roundg (gk - 1)
              case measure => omega
              case rel => exact ⟨i + 1, _, false, rfl, rfl, by go_num, rfl, (fun h => by cases h), fun _ => HNN.out⟩
          · obtain rfl : i = s.size := by omega
            have htk : s.data.toList.take s.size = s.data.toList := List.take_of_length_le (by rw [size_list]; exact Nat.le_refl _)
            rw [htk] at HA hvb ⊢
            clear htk
            have HE := hid (show X = some (val10 s.data.toList) from by
              rw [HX.out, called_num ⟨H0.out, dg_all 4 _ (by rw [size_list]; exact h4) HA.out⟩])
            go_wp2
            go_ret
            exact ⟨by rw [HE.out]; rfl, rfl⟩
    · have h4I : ¬ (s.size : Int) ≤ 4 := by omega
      have HNM := hid (show X = idxN s.data.toList ns from by
        rw [HX.out, called_name (fun h => h4 (by
          have := dg_le 4 s.data.toList
          have e := h.2
          rw [size_list] at e
          omega)) h0])
      clear h0 HX h4
      go_enter Tryd.func18, Tryd.ntmps18
      go_wp2_with fail
      go_loopg [5, 6, 7] 0 (fun gk v5 v6 v7 wr => v5 = .int .i64 0 ∧ v6 = .bool false ∧ v7 = .int .i64 0 ∧ w = wr)
      case atStart => exact ⟨rfl, rfl, rfl, rfl⟩
      case round =>
        obtain ⟨rfl, rfl, rfl, rfl⟩ := hrel
        go_wp2
        go_loopg [8] ns.length (fun gk v8 wr => ∃ i : Nat, i + gk = ns.length ∧ v8 = .int .i64 (i : Nat) ∧ Hid (X = (idxN s.data.toList (ns.drop i)).map (· + i)) ∧ w = wr)
        case atStart => exact ⟨0, by omega, rfl, hid (by rw [HNM.out, List.drop_zero]; simp), rfl⟩
        case round =>
          obtain ⟨i, hi, rfl, HD, rfl⟩ := hrel
          by_cases hlt : i < ns.length
          · have hltI : (i : Int) < (ns.length : Int) := by omega
            obtain ⟨b, o, rfl, hb, hc⟩ : ∃ b o, a = some ⟨b, o, none⟩ ∧ b < w.heap.size ∧ ∀ j (h : j < ns.length), w.cell? ⟨b, o + j, none⟩ = some (sv ns[j]) := by
              rcases HN.out with h | h
              · rw [h] at hlt; simp at hlt
              · exact h
            have d0 := hc i hlt
            rw [List.drop_eq_getElem_cons hlt, idxN] at HD
            obtain ⟨x, hxe⟩ : ∃ x, x = ns[i] := ⟨_, rfl⟩
            rw [← hxe] at HD d0
            unfold sv at d0
            clear hxe hc hb
            by_cases hx : x = s.data.toList
            · rw [if_pos hx] at HD
              have hbq : (x == s.toList) = true := by rw [hx, toList_data]; simp
              clear hx
              go_wp2
              go_ret
              exact ⟨by rw [HD.out]; simp [idxV], rfl⟩
            · rw [if_neg hx] at HD
              have hbq : (x == s.toList) = false := by
                rw [beq_eq_false_iff_ne, toList_data]
                exact hx
              clear hx
              go_wp2
              go_roundg (gk - 1)
              case measure => omega
              case rel => exact ⟨i + 1, by omega, by go_num, hid (by
                rw [HD.out, Option.map_map]
                congr 1
                funext k
                simp only [Function.comp]
                omega), rfl⟩
          · obtain rfl : i = ns.length := by omega
            rw [List.drop_length] at HD
            go_wp2
            go_ret
            exact ⟨by rw [HD.out]; rfl, rfl⟩
end Go.Proofs.YtnohikoeaepfpaaDoor

/- Parse of templates; conditions: the errors' values lie there, the names are in memory. -/
namespace Go.Proofs.YtnohikoeaepfpaaDoor
open Go.RowKit
open Go.Lib

def Lst (o : List Pc) : Prop := ∀ q, o[o.length - 1]? = some q → 0 ≤ q.g
theorem Lst.nil : Lst [] := fun q h => by simp at h
theorem nm_len (o : List Pc) (p : Bs) : (nm o p).length ≤ o.length + p.length := by
  unfold nm
  split
  · omega
  · rename_i h
    have : 0 < p.length := List.length_pos_iff.2 h
    simp; omega
theorem last_snoc {α : Type} (o : List α) (x : α) : (o ++ [x])[(o ++ [x]).length - 1]? = some x := by simp
theorem J_text {o : List Pc} {p t : Bs} (h : Lst o) (ht : t ≠ []) : J (nm o p) ⟨t, -1⟩ = nm o (p ++ t) := by
  have hpt : p ++ t ≠ [] := fun e => ht (List.append_eq_nil_iff.1 e).2
  unfold nm
  rw [if_neg hpt]
  by_cases hp : p = []
  · rw [if_pos hp, hp]
    unfold J
    cases ho : o[o.length - 1]? with
    | none => rfl
    | some q =>
      have := h q ho
      dsimp only
      rw [if_neg (fun e => by have := e.1; omega)]
      rfl
  · rw [if_neg hp]
    unfold J
    rw [last_snoc]
    dsimp only
    rw [if_pos ⟨rfl, rfl⟩]
    simp
theorem J_grp {l : List Pc} {g : Nat} : J l ⟨[], g⟩ = l ++ [⟨[], g⟩] := by
  unfold J
  split
  · rw [if_neg (fun e => by have := e.2; simp at this)]
  · rfl
theorem first_len {ns : List Bs} {cs t : Bs} {n : Nat} (h : firstP ns cs = .text t n) : t.length ≤ n := by
  unfold firstP at h
  split at h
  · cases h; exact Nat.le_refl _
  · cases h; rw [List.length_take]; omega
  · split at h
    · cases h; simp
    · unfold sgTk at h
      split at h
      · split at h <;> cases h
      · cases h

def parseP (ns : List Bs) (cs : Bs) : List Pc × Int × Int := if 1024 < cs.length then ([], 2, 0) else match G ns [] [] cs 0 with
  | .inl l => (l, 0, 0)
  | .inr k => ([], 27, (k : Nat))
def psV (x : List Pc ⊕ Nat) : List Pc × Int × Int := match x with
  | .inl l => (l, 0, 0)
  | .inr k => ([], 27, (k : Nat))
theorem own_fset {w : World} {base : Nat} {e : TypeId} {sz : Nat} {v : Value} {n : Nat} {xs : List Value} {q : Nat} (h : w.ownsRow base e sz v n xs) (hq : ∀ g, v.ownBlock = some g → g ≠ q) (x y : Value) : ((w.setCell ⟨q, 0, none⟩ x).setCell ⟨q, 1, none⟩ y).ownsRow base e sz v n xs := by
  refine ⟨h.1, ?_⟩
  rcases h.2 with h0 | ⟨g, cap, cur, hv, hg, hh, rest⟩
  · exact .inl h0
  · have hne : g ≠ q := hq g (by rw [hv]; rfl)
    refine .inr ⟨g, cap, cur, hv, hg, ?_, rest⟩
    rw [Below.heap_setCell _ _ _ _ hne, Below.heap_setCell _ _ _ _ hne]
    exact hh
theorem OwE.done {w w0 wr : World} {e : TypeId} {v : Value} {s : List Pc} {q : Nat} (h : OwE w0 wr e v s) (t : Touch (fun _ => False) w w0) (hq : q < w0.heap.size) (hq2 : w.heap.size ≤ q) (x y : Value) : OwE w ((wr.setCell ⟨q, 0, none⟩ x).setCell ⟨q, 1, none⟩ y) e v s :=
  ⟨own_fset h.own (fun g hg => by have := h.new g hg; omega) x y, fun g hg => by have := h.new g hg; have := t.size; omega, ftouch (t.trans h.touch (fun _ _ e => e)) hq2 x y⟩
set_option maxRecDepth 100000 in
set_option maxHeartbeats 4000000 in
theorem parse_any (s : ByteArray) (v : Value) (ns : List Bs) (w : World) (hs : s.size ≤ 140737488351232) (hN : Nl w v ns) (hn : ns.length ≤ 140737488355328) (hx : Sx w) :
    Calls Tryd.prog 7 #[.string s, v] w fun e w' => ∃ v', e = .returned (.tuple #[v', .agg #[.int .i64 (parseP ns s.data.toList).2.1, .int .i64 (parseP ns s.data.toList).2.2]]) ∧ OwE w w' 35 v' (parseP ns s.data.toList).1 := by
  have T0 := hid ((Touch.refl (fun _ => False) w).alloc (.cells #[.int .i64 0, .int .i64 0] 27))
  have FB0 := hid (two_new (w := w) (.int .i64 0) (.int .i64 0) 27)
  have N0 := hid (hN.new T0.out)
  have X0 := hid (hx.new T0.out)
  obtain ⟨a, c, rfl, _⟩ := hN
  clear hx
  unfold parseP
  rw [size_list]
  by_cases hbig : 1024 < s.size
  · rw [if_pos hbig]
    dsimp only
    have hbI : (1024 : Int) < (s.size : Int) := by omega
    clear N0 X0
    go_enter Tryd.func7, Tryd.ntmps7
    go_wp2
    refine bodyPost_ret (results_tc rfl _ _ w.heap.size 27 _ (0, 0) _ rfl (two_new _ _ 27) Tryd.underlying27 rfl (by kernel_rfl)) rfl ?_
    exact ⟨_, rfl, (OwE.nil _ _).still ((Touch.refl _ _).alloc _)⟩
  · rw [if_neg hbig]
    have hbI : ¬ (1024 : Int) < (s.size : Int) := by omega
    obtain ⟨X, hX⟩ : ∃ X, X = G ns [] [] s.data.toList 0 := ⟨_, rfl⟩
    rw [← hX]
    have HX := hid hX.symm
    change Calls Tryd.prog 7 _ w fun e w' => ∃ v', e = .returned (.tuple #[v', .agg #[.int .i64 (psV X).2.1, .int .i64 (psV X).2.2]]) ∧ OwE w w' 35 v' (psV X).1
    clear hX
    go_enter Tryd.func7, Tryd.ntmps7
    go_wp2_with fail
    generalize w.alloc (.cells #[.int .i64 0, .int .i64 0] 27) = w0 at *
    obtain ⟨q, hq⟩ : ∃ q, q = w.heap.size := ⟨_, rfl⟩
    rw [← hq] at FB0 ⊢
    have HQ := hid (show w.heap.size ≤ q ∧ q < w0.heap.size from ⟨by omega, lt_of_block FB0.out⟩)
    clear hq
    go_loopg [6, 7] s.size (fun gk v6 v7 wr => ∃ (k : Nat) (o : List Pc) (p : Bs), k + gk = s.size ∧ v7 = .int .i64 (k : Nat) ∧ OwE w0 wr 35 v6 (nm o p) ∧ Hid (G ns o p (s.data.toList.drop k) k = X) ∧ Lst o ∧ Hid (o.length + p.length ≤ k ∧ ∀ q ∈ o, q.t.length ≤ k))
    case atStart => exact ⟨0, [], [], by omega, rfl, OwE.nil _ _, hid (by rw [List.drop_zero]; exact HX.out), Lst.nil, hid ⟨Nat.le_refl _, fun q hq => by simp at hq⟩⟩
    case round =>
      obtain ⟨k, o, p, hk, rfl, hown, HG, hlst, HB⟩ := hrel
      have OW := hid hown
      have HL := hid hlst
      obtain ⟨a6, c6, hv6⟩ := own_shape hown.own
      subst hv6
      clear hown hlst
      by_cases hlt : k < s.size
      · have hltI : (k : Int) < (s.size : Int) := by omega
        have hkI : (k : Int) ≤ (s.size : Int) := by omega
        have hdl : (s.extract k s.size).data.toList = s.data.toList.drop k := ext_end s k
        have hds : (s.extract k s.size).size = s.size - k := by rw [ByteArray.size_extract]; omega
        have K := hid (first_any (s.extract k s.size) _ ns wr (by omega) (by omega) (N0.out.new OW.out.touch) hn (X0.out.new OW.out.touch))
        rw [hdl] at K
        have hne : s.data.toList.drop k ≠ [] := fun e => by
          have := congrArg List.length e
          rw [List.length_drop, size_list, List.length_nil] at this
          omega
        have hz := first_size (ns := ns) hne
        rw [G_first ns _ hne] at HG
        have hlen : (s.data.toList.drop k).length = s.size - k := by rw [List.length_drop, size_list]
        rw [hlen] at hz
        have HDD := hid (show ∀ n, (s.data.toList.drop k).drop n = s.data.toList.drop (k + n) from fun n => by rw [List.drop_drop])
        cases hf : firstP ns (s.data.toList.drop k) with
        | bad =>
          rw [hf] at K HG
          unfold tkV sv at K
          dsimp only at K HG
          clear hz hne hdl hds hlen HDD HB HL
          go_wp2_with fail
          refine K.out.mono ?_
          rintro e w1 ⟨rfl, t1⟩
          clear K
          go_upto_region 7 with fail
          have OW1 := hid ((OW.out.still t1).still ((Touch.refl _ _).alloc (.cells #[.string ⟨#[]⟩, .int .i64 0] 35)))
          clear t1 OW
          generalize w1.alloc (.cells #[.string ⟨#[]⟩, .int .i64 0] 35) = w2 at *
          generalize w1.heap.size = q8 at *
          have FB1 := hid ((OW1.out.touch.block q HQ.out.2 id).trans FB0.out)
          have g0 := cell_two0 FB1.out
          have g1 := cell_two1 FB1.out
          have gf0 := free_two (i := 0) FB1.out
          have gf1 := free_two (i := 1) FB1.out
          go_wp2
          refine bodyPost_ret (results_tc rfl _ _ q 27 _ (0, 0) _ rfl (fset FB1.out _ _) Tryd.underlying27 rfl (by kernel_rfl)) rfl ?_
          exact ⟨_, by rw [← HG.out]; rfl, by rw [← HG.out]; exact ((OwE.nil w0 35).still OW1.out.touch).done T0.out HQ.out.2 HQ.out.1 _ _⟩
        | text t n =>
          rw [hf] at K HG
          unfold tkV sv at K
          dsimp only at K HG
          have hb := hz.1 t n hf
          have hl2 := first_len hf
          have JL := hid (show J (nm o p) ⟨t, -1⟩ = _ from J_text HL.out hb.2.2.1)
          have NB := hid (show ∀ x ∈ nm o p, x.t.length ≤ k from by
            intro x hx
            unfold nm at hx
            split at hx
            · exact HB.out.2 x hx
            · rcases List.mem_append.1 hx with hx | hx
              · exact HB.out.2 x hx
              · have := HB.out.1
                simp at hx
                rw [hx]
                show p.length ≤ k
                omega)
          have hnl : (nm o p).length ≤ k := by
            have := nm_len o p
            have := HB.out.1
            omega
          clear hz hne hdl hds hlen hf
          go_wp2_with fail
          refine K.out.mono ?_
          rintro e w1 ⟨rfl, t1⟩
          clear K
          have hnz : ¬ (n : Int) = 0 := by omega
          have hnzB : ((n : Int) == 0) = false := beq_eq_false_iff_ne.2 hnz
          go_upto_region 7 with fail
          have OW2 := hid ((OW.out.still t1).still ((Touch.refl _ _).alloc (.cells #[.string ⟨t.toArray⟩, .int .i64 (-1)] 35)))
          have B8 := hid (two_new (w := w1) (.string ⟨t.toArray⟩) (.int .i64 (-1)) 35)
          clear t1 OW
          generalize w1.alloc (.cells #[.string ⟨t.toArray⟩, .int .i64 (-1)] 35) = w2 at *
          generalize w1.heap.size = q8 at *
          have KJ := hid (join_any w0 w2 _ (nm o p) ⟨t, -1⟩ OW2.out (by omega) (fun x hx => by have := NB.out x hx; omega) (by have := HB.out.1; show t.length ≤ 4096; omega))
          unfold sv gv at KJ
          have d0 := cell_two0 B8.out
          have d1 := cell_two1 B8.out
          go_wp2_with fail
          refine KJ.out.mono ?_
          rintro e w3 ⟨v3, rfl, ow3⟩
          have OW3 := hid ow3
          clear KJ ow3
          go_wp2
          go_roundg (gk - n)
          case measure => omega
          case rel =>
            exact ⟨k + n, o, p ++ t, by omega, by go_num, by rw [← JL.out]; exact OW3.out, hid (by rw [← HG.out, HDD.out]), HL.out, hid ⟨by have := HB.out.1; rw [List.length_append]; omega, fun x hx => by have := HB.out.2 x hx; omega⟩⟩
        | grp g n =>
          rw [hf] at K HG
          unfold tkV sv at K
          dsimp only at K HG
          have hb := hz.2 g n hf
          have JL := hid (show J (nm o p) ⟨[], g⟩ = _ from J_grp)
          have NB := hid (show ∀ x ∈ nm o p, x.t.length ≤ k from by
            intro x hx
            unfold nm at hx
            split at hx
            · exact HB.out.2 x hx
            · rcases List.mem_append.1 hx with hx | hx
              · exact HB.out.2 x hx
              · have := HB.out.1
                simp at hx
                rw [hx]
                show p.length ≤ k
                omega)
          have hnl : (nm o p).length ≤ k := by
            have := nm_len o p
            have := HB.out.1
            omega
          clear hz hne hdl hds hlen hf
          go_wp2_with fail
          refine K.out.mono ?_
          rintro e w1 ⟨rfl, t1⟩
          clear K
          have hnz : ¬ (n : Int) = 0 := by omega
          have hnzB : ((n : Int) == 0) = false := beq_eq_false_iff_ne.2 hnz
          go_upto_region 7 with fail
          have OW2 := hid ((OW.out.still t1).still ((Touch.refl _ _).alloc (.cells #[.string ⟨#[]⟩, .int .i64 (g : Nat)] 35)))
          have B8 := hid (two_new (w := w1) (.string ⟨#[]⟩) (.int .i64 (g : Nat)) 35)
          clear t1 OW
          generalize w1.alloc (.cells #[.string ⟨#[]⟩, .int .i64 (g : Nat)] 35) = w2 at *
          generalize w1.heap.size = q8 at *
          have KJ := hid (join_any w0 w2 _ (nm o p) ⟨[], g⟩ OW2.out (by omega) (fun x hx => by have := NB.out x hx; omega) (by show (0 : Nat) ≤ 4096; omega))
          unfold sv gv at KJ
          have d0 := cell_two0 B8.out
          have d1 := cell_two1 B8.out
          go_wp2_with fail
          refine KJ.out.mono ?_
          rintro e w3 ⟨v3, rfl, ow3⟩
          have OW3 := hid ow3
          clear KJ ow3
          go_wp2
          go_roundg (gk - n)
          case measure => omega
          case rel =>
            exact ⟨k + n, nm o p ++ [⟨[], g⟩], [], by omega, by go_num, by rw [← JL.out]; exact OW3.out, hid (by rw [← HG.out, HDD.out]), (fun x hx => by rw [last_snoc] at hx; cases hx; exact Int.natCast_nonneg g), hid ⟨by have := HB.out.1; have := nm_len o p; simp only [List.length_append, List.length_cons, List.length_nil]; omega, fun x hx => by
              rcases List.mem_append.1 hx with hx | hx
              · have := NB.out x hx; omega
              · simp at hx; rw [hx]; exact Nat.zero_le _⟩⟩
      · obtain rfl : k = s.size := by omega
        rw [drop_all, G_nil] at HG
        have FB1 := hid ((OW.out.touch.block q HQ.out.2 id).trans FB0.out)
        have g0 := cell_two0 FB1.out
        have g1 := cell_two1 FB1.out
        have gf0 := free_two (i := 0) FB1.out
        have gf1 := free_two (i := 1) FB1.out
        go_wp2
        refine bodyPost_ret (results_tc rfl _ _ q 27 _ (0, 0) _ rfl (fset FB1.out _ _) Tryd.underlying27 rfl (by kernel_rfl)) rfl ?_
        exact ⟨_, by rw [← HG.out]; rfl, by rw [← HG.out]; exact OW.out.done T0.out HQ.out.2 HQ.out.1 _ _⟩
end Go.Proofs.YtnohikoeaepfpaaDoor
