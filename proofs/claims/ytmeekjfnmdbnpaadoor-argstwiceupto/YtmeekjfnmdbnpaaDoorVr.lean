/- The values' own ways of reading a text; conditions: the text fits into memory, the library's variables lie there. -/
import Derived.Test.YtmeekjfnmdbnpaaDoorSk
namespace Go.Proofs.YtmeekjfnmdbnpaaDoor
open Go.RowKit
open Go.Lib

def yesB : Bs := [121, 101, 115]
def noB : Bs := [110, 111]
/-- Is a text a value of this key, and what is kept. -/
def okR (k : Nat) (x : Bs) : Bool := if k < 5 then (rn x).isSome else if k < 15 then decide (x = yesB) || decide (x = noB) else true
def stR (k : Nat) (x : Bs) : Value := if k < 5 then .int .i64 ((rn x).getD 0) else if k < 15 then .bool (decide (x = yesB)) else sv x
theorem beq_dec (a b : Bs) : (a == b) = decide (a = b) := by rw [Bool.eq_iff_iff]; simp
theorem cell_of {w : World} {b : Nat} {cs : Array Value} {t : TypeId} (h : w.heap[b]? = some (.cells cs t (0, 0))) (i : Nat) (hi : i < cs.size) : w.cell? ⟨b, i, none⟩ = some cs[i] := by
  simp [World.cell?, h, hi]
theorem free_of {w : World} {b i : Nat} {cs : Array Value} {t : TypeId} (h : w.heap[b]? = some (.cells cs t (0, 0))) : w.frozen? ⟨b, i, none⟩ = false := by simp [World.frozen?, h]
/-- A request lies in block b. -/
def Rq (w : World) (b : Nat) (cs : Array Value) : Prop := w.heap[b]? = some (.cells cs 67 (0, 0)) ∧ cs.size = 18
theorem Rq.kept {w w' : World} {S : Nat → Prop} {b : Nat} {cs : Array Value} (h : Rq w b cs) (t : Touch S w w') (hs : ¬ S b) : Rq w' b cs := ⟨(t.block b (lt_of_block h.1) hs).trans h.1, h.2⟩
theorem Rq.new {w w' : World} {b : Nat} {cs : Array Value} (h : Rq w b cs) (t : Touch (fun _ => False) w w') : Rq w' b cs := h.kept t id
theorem Rq.set {w : World} {b : Nat} {cs : Array Value} (h : Rq w b cs) (i : Nat) (v : Value) : Rq (w.setCell ⟨b, i, none⟩ v) b (cs.set! i v) := ⟨block_set h.1 i v, by simp [h.2]⟩
set_option maxRecDepth 100000 in
set_option maxHeartbeats 4000000 in
theorem rnum_any (b off : Nat) (x : ByteArray) (w : World) (cs : Array Value) (hb : Rq w b cs) (ho : off < 18) (hs : x.size ≤ 140737488355328) (hx : Sx w) :
    Calls Tryd.prog 92 #[.agg #[.pointer (some ⟨b, off, none⟩)], .string x] w fun e w' => e = .returned (.bool (rn x.data.toList).isSome) ∧ Rq w' b (cs.set! off (.int .i64 ((rn x.data.toList).getD 0))) ∧ Touch (fun k => k = b) w w' := by
  have TA := hid ((Touch.refl (fun _ => False) w).alloc (.cells #[.pointer (some ⟨b, off, none⟩)] 93))
  have C1 := hid (show (w.alloc (.cells #[.pointer (some ⟨b, off, none⟩)] 93)).cell? ⟨w.heap.size, 0, none⟩ = some (.pointer (some ⟨b, off, none⟩)) from row_new w [.pointer (some ⟨b, off, none⟩)] 93 0 _ rfl)
  have LQ := hid (show w.heap.size < (w.alloc (.cells #[.pointer (some ⟨b, off, none⟩)] 93)).heap.size by show _ < (w.heap.push _).size; simp)
  have K := hid (readNumber_any x hs _ (hx.new TA.out))
  have RB := hid hb
  obtain ⟨V, B, hV, hV1, hV2⟩ : ∃ V B, rnV x.data.toList = .tuple #[.int .i64 V, .bool B] ∧ (rn x.data.toList).isSome = B ∧ (rn x.data.toList).getD 0 = V := by
    unfold rnV
    cases rn x.data.toList with
    | none => exact ⟨0, false, rfl, rfl, rfl⟩
    | some n => exact ⟨n, true, rfl, rfl, rfl⟩
  rw [hV1, hV2]
  rw [hV] at K
  clear hV hV1 hV2 hx hb
  go_enter Tryd.func92, Tryd.ntmps92
  go_wp2_with fail
  generalize w.alloc (.cells #[.pointer (some ⟨b, off, none⟩)] 93) = wa at *
  generalize hqa : w.heap.size = qa at *
  refine K.out.mono ?_
  rintro e w1 ⟨rfl, t1⟩
  have T1 := hid (TA.out.trans t1 (fun _ _ e => e))
  have RB1 := hid (RB.out.new T1.out)
  have c1 : w1.cell? ⟨qa, 0, none⟩ = some (.pointer (some ⟨b, off, none⟩)) := (t1.cell (p := ⟨qa, 0, none⟩) LQ.out id).trans C1.out
  have c2 := cell_of RB1.out.1 off (by rw [RB1.out.2]; exact ho)
  have f2 := free_of (i := off) RB1.out.1
  clear t1 K C1 LQ
  go_wp2
  go_ret
  exact ⟨rfl, RB1.out.set off _, (T1.out.mono (S' := fun k => k = b) (fun _ _ e => e.elim)).setCell (p := ⟨b, off, none⟩) (fun _ => rfl) _⟩
set_option maxRecDepth 100000 in
set_option maxHeartbeats 4000000 in
theorem rtext_any (b off : Nat) (x : ByteArray) (w : World) (cs : Array Value) (hb : Rq w b cs) (ho : off < 18) :
    Calls Tryd.prog 96 #[.agg #[.pointer (some ⟨b, off, none⟩)], .string x] w fun e w' => e = .returned (.bool true) ∧ Rq w' b (cs.set! off (.string x)) ∧ Touch (fun k => k = b) w w' := by
  have TA := hid ((Touch.refl (fun _ => False) w).alloc (.cells #[.pointer (some ⟨b, off, none⟩)] 99))
  have c1 : (w.alloc (.cells #[.pointer (some ⟨b, off, none⟩)] 99)).cell? ⟨w.heap.size, 0, none⟩ = some (.pointer (some ⟨b, off, none⟩)) := row_new w [.pointer (some ⟨b, off, none⟩)] 99 0 _ rfl
  have RB1 := hid (hb.new TA.out)
  have c2 := cell_of RB1.out.1 off (by rw [RB1.out.2]; exact ho)
  have f2 := free_of (i := off) RB1.out.1
  clear hb
  go_enter Tryd.func96, Tryd.ntmps96
  go_wp2
  go_ret
  exact ⟨rfl, RB1.out.set off _, (TA.out.mono (S' := fun k => k = b) (fun _ _ e => e.elim)).setCell (p := ⟨b, off, none⟩) (fun _ => rfl) _⟩
set_option maxRecDepth 100000 in
set_option maxHeartbeats 4000000 in
theorem rchoice_any (b off : Nat) (x : ByteArray) (w : World) (cs : Array Value) (hb : Rq w b cs) (ho : off < 18) :
    Calls Tryd.prog 94 #[.agg #[.pointer (some ⟨b, off, none⟩)], .string x] w fun e w' => e = .returned (.bool (decide (x.data.toList = yesB) || decide (x.data.toList = noB))) ∧ Rq w' b (cs.set! off (.bool (decide (x.data.toList = yesB)))) ∧ Touch (fun k => k = b) w w' := by
  have TA := hid ((Touch.refl (fun _ => False) w).alloc (.cells #[.pointer (some ⟨b, off, none⟩)] 96))
  have c1 : (w.alloc (.cells #[.pointer (some ⟨b, off, none⟩)] 96)).cell? ⟨w.heap.size, 0, none⟩ = some (.pointer (some ⟨b, off, none⟩)) := row_new w [.pointer (some ⟨b, off, none⟩)] 96 0 _ rfl
  have RB1 := hid (hb.new TA.out)
  have c2 := cell_of RB1.out.1 off (by rw [RB1.out.2]; exact ho)
  have f2 := free_of (i := off) RB1.out.1
  clear hb
  have hY := hid (show (x.toList == [121, 101, 115]) = decide (x.data.toList = yesB) by rw [toList_data, beq_dec]; rfl)
  have hNo := hid (show (x.toList == [110, 111]) = decide (x.data.toList = noB) by rw [toList_data, beq_dec]; rfl)
  cases h1 : decide (x.data.toList = yesB) with
  | true =>
    rw [h1] at hY
    have y1 := hY.out
    clear hY hNo h1
    go_enter Tryd.func94, Tryd.ntmps94
    go_wp2
    go_ret
    exact ⟨rfl, RB1.out.set off _, (TA.out.mono (S' := fun k => k = b) (fun _ _ e => e.elim)).setCell (p := ⟨b, off, none⟩) (fun _ => rfl) _⟩
  | false =>
    rw [h1] at hY
    cases h2 : decide (x.data.toList = noB) with
    | true =>
      rw [h2] at hNo
      have y1 := hY.out
      have y2 := hNo.out
      clear hY hNo h1 h2
      go_enter Tryd.func94, Tryd.ntmps94
      go_wp2
      go_ret
      exact ⟨rfl, RB1.out.set off _, (TA.out.mono (S' := fun k => k = b) (fun _ _ e => e.elim)).setCell (p := ⟨b, off, none⟩) (fun _ => rfl) _⟩
    | false =>
      rw [h2] at hNo
      have y1 := hY.out
      have y2 := hNo.out
      clear hY hNo h1 h2
      go_enter Tryd.func94, Tryd.ntmps94
      go_wp2
      go_ret
      exact ⟨rfl, RB1.out.set off _, (TA.out.mono (S' := fun k => k = b) (fun _ _ e => e.elim)).setCell (p := ⟨b, off, none⟩) (fun _ => rfl) _⟩
end Go.Proofs.YtmeekjfnmdbnpaaDoor
