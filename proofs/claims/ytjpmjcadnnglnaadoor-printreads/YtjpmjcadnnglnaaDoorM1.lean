/- Texts of this proof, one behind the other: what each says stands ahead of it. -/
import Derived.Test.YtjpmjcadnnglnaaDoorRows
import Derived.OpenShut
import Derived.ChangeArms
import Derived.Test.YtjpmjcadnnglnaaDoorM0
/- The two tables of coding, as the row's list gives them: their cells; no condition. -/
namespace Go.Proofs.YtjpmjcadnnglnaaDoor
open Go.RowKit

theorem g0 : Tryd.prog.globalNamed "ferret/coding.marks" = some 0 := by kernel_rfl
theorem g1 : Tryd.prog.globalNamed "ferret/coding.leads" = some 1 := by kernel_rfl
theorem y0 : (Tryd.prog.globals[0]?).map (·.type) = some 93 := by kernel_rfl
theorem y1 : (Tryd.prog.globals[1]?).map (·.type) = some 109 := by kernel_rfl
theorem tc3 : Tryd.prog.cellsOf 3 = 1 := by kernel_rfl
theorem tc5 : Tryd.prog.cellsOf 5 = 1 := by kernel_rfl
theorem tc9 : Tryd.prog.cellsOf 9 = 1 := by kernel_rfl
theorem tc70 : Tryd.prog.cellsOf 103 = 5 := by kernel_rfl
theorem tc73 : Tryd.prog.cellsOf 109 = 45 := by kernel_rfl
theorem tc65 : Tryd.prog.cellsOf 93 = 5 := by kernel_rfl

theorem at_take {cs : List Value} {k : Nat} {v : Value} (h : (cs.drop k).take 1 = [v]) : cs[k]? = some v := by
  have := congrArg (·[0]?) h
  simpa [List.getElem?_take, List.getElem?_drop] using this
theorem five_list {cs : List Value} {x y z u v : Value} (hl : cs.length = 5) (q0 : cs[0]? = some x) (q1 : cs[1]? = some y) (q2 : cs[2]? = some z) (q3 : cs[3]? = some u) (q4 : cs[4]? = some v) : cs = [x, y, z, u, v] := by
  match cs, hl, q0, q1, q2, q3, q4 with
  | [a, b, c, d, e], _, q0, q1, q2, q3, q4 =>
    simp at q0 q1 q2 q3 q4
    subst q0 q1 q2 q3 q4
    rfl
section
variable {H : Type} {enc : TypeId × Value → H} {w : World} {base : Nat} {sp : Nat → Bool} {held : Bool}
theorem row5 {fuel : Nat} {cs : List Value} {x0 x1 x2 x3 x4 : Int} {p : List MemPlace} (h : DataW.trod enc Tryd.prog w base sp held fuel 103 cs = some (.agg [.lit (.int .u8 x0), .lit (.int .u8 x1), .lit (.int .i64 x2), .lit (.int .u8 x3), .lit (.int .u8 x4)], p)) : cs = [.int .u8 x0, .int .u8 x1, .int .i64 x2, .int .u8 x3, .int .u8 x4] := by
  obtain ⟨xs, n, rfl, hx, hl, hxl, hall⟩ := DataW.trod_struct Tryd.underlying103 h
  rw [tc70] at hl
  have hx3 : xs.map (·.1) = [.lit (.int .u8 x0), .lit (.int .u8 x1), .lit (.int .i64 x2), .lit (.int .u8 x3), .lit (.int .u8 x4)] := by
    have := congrArg Prod.fst hx
    simpa using this.symm
  obtain ⟨d0, d1, d2, d3, d4, rfl⟩ : ∃ d0 d1 d2 d3 d4, xs = [d0, d1, d2, d3, d4] := by
    match xs, hx3 with
    | [d0, d1, d2, d3, d4], _ => exact ⟨d0, d1, d2, d3, d4, rfl⟩
  simp only [List.map_cons, List.map_nil, List.cons.injEq, and_true] at hx3
  obtain ⟨e0, e1, e2, e3, e4⟩ := hx3
  have f0 := hall 0 _ rfl
  change DataW.trod _ _ _ _ _ _ _ 5 ((cs.drop 0).take (Tryd.prog.cellsOf 5)) = some d0 at f0
  rw [tc5] at f0
  have q0 : cs[0]? = some (.int .u8 x0) := by
    obtain ⟨z, hz, hx', _⟩ := DataW.trod_int Tryd.underlying5 f0
    rw [hx'] at e0
    cases e0
    exact at_take hz
  have f1 := hall 1 _ rfl
  change DataW.trod _ _ _ _ _ _ _ 5 ((cs.drop 1).take (Tryd.prog.cellsOf 5)) = some d1 at f1
  rw [tc5] at f1
  have q1 : cs[1]? = some (.int .u8 x1) := by
    obtain ⟨z, hz, hx', _⟩ := DataW.trod_int Tryd.underlying5 f1
    rw [hx'] at e1
    cases e1
    exact at_take hz
  have f2 := hall 2 _ rfl
  change DataW.trod _ _ _ _ _ _ _ 3 ((cs.drop 2).take (Tryd.prog.cellsOf 3)) = some d2 at f2
  rw [tc3] at f2
  have q2 : cs[2]? = some (.int .i64 x2) := by
    obtain ⟨z, hz, hx', _⟩ := DataW.trod_int Tryd.underlying3 f2
    rw [hx'] at e2
    cases e2
    exact at_take hz
  have f3 := hall 3 _ rfl
  change DataW.trod _ _ _ _ _ _ _ 5 ((cs.drop 3).take (Tryd.prog.cellsOf 5)) = some d3 at f3
  rw [tc5] at f3
  have q3 : cs[3]? = some (.int .u8 x3) := by
    obtain ⟨z, hz, hx', _⟩ := DataW.trod_int Tryd.underlying5 f3
    rw [hx'] at e3
    cases e3
    exact at_take hz
  have f4 := hall 4 _ rfl
  change DataW.trod _ _ _ _ _ _ _ 5 ((cs.drop 4).take (Tryd.prog.cellsOf 5)) = some d4 at f4
  rw [tc5] at f4
  have q4 : cs[4]? = some (.int .u8 x4) := by
    obtain ⟨z, hz, hx', _⟩ := DataW.trod_int Tryd.underlying5 f4
    rw [hx'] at e4
    cases e4
    exact at_take hz
  exact five_list hl q0 q1 q2 q3 q4

/-- The list that the array is, out of its pieces. -/
theorem pieces {cs : List Value} {m : Nat} : ∀ (rows : List (List Value)) (k : Nat), (∀ i (h : i < rows.length), (cs.drop ((k + i) * m)).take m = rows[i]) → (∀ r ∈ rows, r.length = m) → (cs.drop (k * m)).take (rows.length * m) = rows.flatten
  | [], k, _, _ => by simp
  | r :: rows, k, h, hl => by
    have h0 := h 0 (by simp)
    have ih := pieces (cs := cs) (m := m) rows (k + 1) (fun i hi => by
      have := h (i + 1) (by simpa using hi)
      rw [show k + (i + 1) = k + 1 + i by omega] at this
      simpa using this) (fun q hq => hl q (by simp [hq]))
    simp only [Nat.add_zero, List.getElem_cons_zero] at h0
    rw [List.length_cons, Nat.add_mul, Nat.one_mul, Nat.add_comm, List.take_add, h0, List.drop_drop, List.flatten_cons]
    rw [show k * m + m = (k + 1) * m by rw [Nat.add_mul, Nat.one_mul], ih]
theorem whole {cs : List Value} {m : Nat} {rows : List (List Value)} (h : ∀ i (h : i < rows.length), (cs.drop (i * m)).take m = rows[i]) (hl : ∀ r ∈ rows, r.length = m) (hc : cs.length = rows.length * m) : cs = rows.flatten := by
  have := pieces rows 0 (fun i hi => by rw [Nat.zero_add]; exact h i hi) hl
  rw [Nat.zero_mul, List.drop_zero, List.take_of_length_le (by omega)] at this
  exact this

set_option maxRecDepth 100000 in
theorem leads_cells {fuel : Nat} {cs : List Value} {p : List MemPlace} (h : DataW.trod enc Tryd.prog w base sp held fuel 109 cs = some (Rows.laid_ferret_coding_leads, p)) : cs = leadsC.toList := by
  obtain ⟨xs, m, rfl, hx, hl, hxl, hall⟩ := DataW.trod_array Tryd.underlying109 h
  rw [tc73] at hl
  have hx3 : xs.map (·.1) = [.agg [.lit (.int .u8 0), .lit (.int .u8 127), .lit (.int .i64 0), .lit (.int .u8 0), .lit (.int .u8 0)], .agg [.lit (.int .u8 194), .lit (.int .u8 223), .lit (.int .i64 1), .lit (.int .u8 128), .lit (.int .u8 191)], .agg [.lit (.int .u8 224), .lit (.int .u8 224), .lit (.int .i64 2), .lit (.int .u8 160), .lit (.int .u8 191)], .agg [.lit (.int .u8 225), .lit (.int .u8 236), .lit (.int .i64 2), .lit (.int .u8 128), .lit (.int .u8 191)], .agg [.lit (.int .u8 237), .lit (.int .u8 237), .lit (.int .i64 2), .lit (.int .u8 128), .lit (.int .u8 159)], .agg [.lit (.int .u8 238), .lit (.int .u8 239), .lit (.int .i64 2), .lit (.int .u8 128), .lit (.int .u8 191)], .agg [.lit (.int .u8 240), .lit (.int .u8 240), .lit (.int .i64 3), .lit (.int .u8 144), .lit (.int .u8 191)], .agg [.lit (.int .u8 241), .lit (.int .u8 243), .lit (.int .i64 3), .lit (.int .u8 128), .lit (.int .u8 191)], .agg [.lit (.int .u8 244), .lit (.int .u8 244), .lit (.int .i64 3), .lit (.int .u8 128), .lit (.int .u8 143)]] := by
    have := congrArg Prod.fst hx
    exact (DataW.agg.inj this).symm
  have row : ∀ i (hi : i < 9) (x0 x1 x2 x3 x4 : Int), (xs.map (·.1))[i]? = some (.agg [.lit (.int .u8 x0), .lit (.int .u8 x1), .lit (.int .i64 x2), .lit (.int .u8 x3), .lit (.int .u8 x4)]) → (cs.drop (i * 5)).take 5 = [.int .u8 x0, .int .u8 x1, .int .i64 x2, .int .u8 x3, .int .u8 x4] := by
    intro i hi x0 x1 x2 x3 x4 hd
    have h1 := hall i hi
    rw [tc70] at h1
    rw [List.getElem?_map] at hd
    obtain ⟨⟨d, q⟩, hq, rfl⟩ := Option.map_eq_some_iff.1 hd
    rw [hq] at h1
    exact row5 h1
  rw [hx3] at row
  have := whole (cs := cs) (m := 5) (rows := [[.int .u8 0, .int .u8 127, .int .i64 0, .int .u8 0, .int .u8 0], [.int .u8 194, .int .u8 223, .int .i64 1, .int .u8 128, .int .u8 191], [.int .u8 224, .int .u8 224, .int .i64 2, .int .u8 160, .int .u8 191], [.int .u8 225, .int .u8 236, .int .i64 2, .int .u8 128, .int .u8 191], [.int .u8 237, .int .u8 237, .int .i64 2, .int .u8 128, .int .u8 159], [.int .u8 238, .int .u8 239, .int .i64 2, .int .u8 128, .int .u8 191], [.int .u8 240, .int .u8 240, .int .i64 3, .int .u8 144, .int .u8 191], [.int .u8 241, .int .u8 243, .int .i64 3, .int .u8 128, .int .u8 191], [.int .u8 244, .int .u8 244, .int .i64 3, .int .u8 128, .int .u8 143]]) (fun i hi => by
    simp only [List.length_cons, List.length_nil] at hi
    match i, hi with
    | 0, hi => exact row 0 hi _ _ _ _ _ rfl
    | 1, hi => exact row 1 hi _ _ _ _ _ rfl
    | 2, hi => exact row 2 hi _ _ _ _ _ rfl
    | 3, hi => exact row 3 hi _ _ _ _ _ rfl
    | 4, hi => exact row 4 hi _ _ _ _ _ rfl
    | 5, hi => exact row 5 hi _ _ _ _ _ rfl
    | 6, hi => exact row 6 hi _ _ _ _ _ rfl
    | 7, hi => exact row 7 hi _ _ _ _ _ rfl
    | 8, hi => exact row 8 hi _ _ _ _ _ rfl) (by simp) (by simp [hl])
  exact this
theorem str_cell {fuel : Nat} {cs : List Value} {l : List UInt8} {p : List MemPlace} (h : DataW.trod enc Tryd.prog w base sp held fuel 9 cs = some (.lit (.string l), p)) : cs = [.string ⟨l.toArray⟩] := by
  obtain ⟨s, rfl, hz, _⟩ := DataW.trod_string Tryd.underlying9 h
  cases s
  rename_i a
  simp only [Prod.mk.injEq, DataW.lit.injEq, Lit.string.injEq] at hz
  rw [hz.1]
set_option maxRecDepth 100000 in
theorem marks_cells {fuel : Nat} {cs : List Value} {p : List MemPlace} (h : DataW.trod enc Tryd.prog w base sp held fuel 93 cs = some (Rows.laid_ferret_coding_marks, p)) : cs = marksC.toList := by
  obtain ⟨xs, m, rfl, hx, hl, hxl, hall⟩ := DataW.trod_array Tryd.underlying93 h
  rw [tc65] at hl
  have hx3 : xs.map (·.1) = [.lit (.string []), .lit (.string [239, 187, 191]), .lit (.string [255, 254]), .lit (.string [254, 255]), .lit (.string [])] := by
    have := congrArg Prod.fst hx
    exact (DataW.agg.inj this).symm
  have row : ∀ i (hi : i < 5) (l : List UInt8), (xs.map (·.1))[i]? = some (.lit (.string l)) → (cs.drop (i * 1)).take 1 = [.string ⟨l.toArray⟩] := by
    intro i hi l hd
    have h1 := hall i hi
    rw [tc9] at h1
    rw [List.getElem?_map] at hd
    obtain ⟨⟨d, q⟩, hq, rfl⟩ := Option.map_eq_some_iff.1 hd
    rw [hq] at h1
    exact str_cell h1
  rw [hx3] at row
  have := whole (cs := cs) (m := 1) (rows := [[.string ⟨#[]⟩], [.string ⟨#[239, 187, 191]⟩], [.string ⟨#[255, 254]⟩], [.string ⟨#[254, 255]⟩], [.string ⟨#[]⟩]]) (fun i hi => by
    simp only [List.length_cons, List.length_nil] at hi
    match i, hi with
    | 0, hi => exact row 0 hi _ rfl
    | 1, hi => exact row 1 hi _ rfl
    | 2, hi => exact row 2 hi _ rfl
    | 3, hi => exact row 3 hi _ rfl
    | 4, hi => exact row 4 hi _ rfl) (by simp) (by simp [hl])
  exact this
end

set_option maxRecDepth 100000 in
theorem tabs_of {W : World} (h : laidMet Tryd.prog [("ferret/coding.marks", Rows.laid_ferret_coding_marks), ("ferret/coding.leads", Rows.laid_ferret_coding_leads)] W) : Tabs W := by
  obtain ⟨ps, ⟨g, t, cs, fuel, p, q, hg, ht, hvar, hd, ⟨g', t', cs', fuel', p', q', hg', ht', hvar', hd', _, rfl⟩, rfl⟩, _, hfree⟩ := h
  obtain rfl := Option.some.inj (g0.symm.trans hg)
  obtain rfl := Option.some.inj (y0.symm.trans ht)
  obtain rfl := Option.some.inj (g1.symm.trans hg')
  obtain rfl := Option.some.inj (y1.symm.trans ht')
  have e0 : cs = marksC := by
    have := marks_cells hd
    cases cs
    simpa using congrArg List.toArray this
  have e1 : cs' = leadsC := by
    have := leads_cells hd'
    cases cs'
    simpa using congrArg List.toArray this
  subst e0
  subst e1
  unfold World.var? at hvar hvar'
  rw [g0] at hvar
  rw [g1] at hvar'
  simp only [Option.bind_some] at hvar hvar'
  obtain ⟨⟨cc, tt, hh⟩, _⟩ := hfree 0 0 (by simp [MemPlace.row, marksC])
  obtain ⟨⟨cc', tt', hh'⟩, _⟩ := hfree 1 0 (by simp [MemPlace.row, leadsC])
  rw [hh] at hvar
  rw [hh'] at hvar'
  simp only [Option.some.injEq] at hvar hvar'
  subst hvar
  subst hvar'
  exact ⟨⟨tt, hh⟩, ⟨tt', hh'⟩⟩
end Go.Proofs.YtjpmjcadnnglnaaDoor

/- A parser of JSON: look, take, wrong; condition: the text fits into memory. -/
namespace Go.Proofs.YtjpmjcadnnglnaaDoor
open Go.RowKit

theorem size_list (s : ByteArray) : s.data.toList.length = s.size := by rw [Array.length_toList]; rfl
theorem at_opt (s : ByteArray) (i : Nat) (h : i < s.size) : s.data.toList[i]? = some s[i] := by
  rw [List.getElem?_eq_getElem (by simpa using h)]
  rfl
/-- A parser in memory: its text, its place, how deep it is. -/
def Ps (w : World) (b : Nat) (s : ByteArray) (t d : Nat) : Prop := w.heap[b]? = some (.cells #[.string s, .int .i64 (t : Nat), .int .i64 (d : Nat)] 60 (0, 0))
theorem Ps.c0 {w : World} {b : Nat} {s : ByteArray} {t d : Nat} (h : Ps w b s t d) : w.cell? ⟨b, 0, none⟩ = some (.string s) := by unfold Ps at h; simp [World.cell?, h]
theorem Ps.c1 {w : World} {b : Nat} {s : ByteArray} {t d : Nat} (h : Ps w b s t d) : w.cell? ⟨b, 1, none⟩ = some (.int .i64 (t : Nat)) := by unfold Ps at h; simp [World.cell?, h]
theorem Ps.c2 {w : World} {b : Nat} {s : ByteArray} {t d : Nat} (h : Ps w b s t d) : w.cell? ⟨b, 2, none⟩ = some (.int .i64 (d : Nat)) := by unfold Ps at h; simp [World.cell?, h]
theorem Ps.fr {w : World} {b : Nat} {s : ByteArray} {t d i : Nat} (h : Ps w b s t d) : w.frozen? ⟨b, i, none⟩ = false := by unfold Ps at h; simp [World.frozen?, h]
theorem Ps.lt {w : World} {b : Nat} {s : ByteArray} {t d : Nat} (h : Ps w b s t d) : b < w.heap.size := lt_of_block h
theorem Ps.new {w w' : World} {b : Nat} {s : ByteArray} {t d : Nat} (h : Ps w b s t d) (k : Touch (fun _ => False) w w') : Ps w' b s t d := (k.block b h.lt id).trans h
theorem Ps.set {w : World} {b : Nat} {s : ByteArray} {t d : Nat} (h : Ps w b s t d) (t' : Nat) : Ps (w.setCell ⟨b, 1, none⟩ (.int .i64 (t' : Nat))) b s t' d := by
  have := block_set h 1 (.int .i64 (t' : Nat))
  exact this
/-- The byte at a place; -1: there is none. -/
def lk (s : ByteArray) (t : Nat) : Int := match s.data.toList[t]? with
  | some c => (c.toNat : Int)
  | none => -1
set_option maxRecDepth 100000 in
set_option maxHeartbeats 4000000 in
theorem look_any (b : Nat) (s : ByteArray) (t d : Nat) (w : World) (h : Ps w b s t d) (_hs : s.size ≤ 1048576) (_ht : t ≤ s.size) :
    Calls Tryd.prog 25 #[.pointer (some ⟨b, 0, none⟩)] w fun e w' => e = .returned (.int .i64 (lk s t)) ∧ Touch (fun _ => False) w w' := by
  have c0 := h.c0
  have c1 := h.c1
  clear h
  by_cases hlt : t < s.size
  · have e : lk s t = (s[t].toNat : Int) := by unfold lk; rw [at_opt s t hlt]
    rw [e]
    clear e
    have hltI : (t : Int) < (s.size : Int) := by omega
    have hx : s[t].toNat < 256 := s[t].toNat_lt
    go_enter Tryd.func25, Tryd.ntmps25
    go_wp2_with fail
    go_quiet (fail)
    go_wp2_with fail
    go_quiet (fail)
    go_wp2
    go_ret
    exact ⟨rfl, ((Touch.refl _ _).drewN _).drewN _⟩
  · have e : lk s t = -1 := by unfold lk; rw [List.getElem?_eq_none (by rw [size_list]; omega)]
    rw [e]
    clear e
    have hltI : ¬ (t : Int) < (s.size : Int) := by omega
    go_enter Tryd.func25, Tryd.ntmps25
    go_wp2_with fail
    go_quiet (fail)
    go_wp2
    go_ret
    exact ⟨rfl, (Touch.refl _ _).drewN _⟩
/-- What a parser throws. -/
def thrown (c t : Nat) : Ending := .panicked [{ v := .iface 39 (.agg #[.int .i64 (c : Nat), .int .i64 (t : Nat)]), recovered := false }]
set_option maxRecDepth 100000 in
set_option maxHeartbeats 4000000 in
theorem wrong_any (b : Nat) (s : ByteArray) (t d c : Nat) (w : World) (h : Ps w b s t d) :
    Calls Tryd.prog 26 #[.pointer (some ⟨b, 0, none⟩), .int .i64 (c : Nat)] w fun e w' => e = thrown c t ∧ Touch (fun _ => False) w w' := by
  have c1 := h.c1
  clear h
  unfold thrown
  go_enter Tryd.func26, Tryd.ntmps26
  go_wp2
  exact ⟨rfl, rfl, Touch.refl _ _⟩
set_option maxRecDepth 100000 in
set_option maxHeartbeats 4000000 in
theorem take_any (b : Nat) (s : ByteArray) (t d c : Nat) (w : World) (h : Ps w b s t d) (hs : s.size ≤ 1048576) (ht : t ≤ s.size) (hc : c < 256) :
    Calls Tryd.prog 55 #[.pointer (some ⟨b, 0, none⟩), .int .u8 (c : Nat)] w fun e w' => e = .returned (.bool (decide (lk s t = (c : Int)))) ∧ Ps w' b s (if lk s t = (c : Int) then t + 1 else t) d ∧ Touch (fun k => k = b) w w' := by
  have K := hid (look_any b s t d w h hs ht)
  have HP := hid h
  clear h
  by_cases hl : lk s t = (c : Int)
  · rw [if_pos hl, decide_eq_true hl]
    rw [hl] at K
    clear hl
    go_enter Tryd.func55, Tryd.ntmps55
    go_wp2_with fail
    refine K.out.mono ?_
    rintro e w1 ⟨rfl, t1⟩
    have H1 := hid (HP.out.new t1)
    have T1 := hid t1
    clear t1 K HP
    have c1 := H1.out.c1
    have f1 := H1.out.fr (i := 1)
    go_wp2
    go_ret
    exact ⟨rfl, H1.out.set (t + 1), Touch.setCell (S := fun k => k = b) (T1.out.mono (fun _ _ e => e.elim)) (p := ⟨b, 1, none⟩) (fun _ => rfl) _⟩
  · rw [if_neg hl, decide_eq_false hl]
    have hlB : ((lk s t) != (c : Int)) = true := by simpa using hl
    generalize lk s t = x at *
    go_enter Tryd.func55, Tryd.ntmps55
    go_wp2_with fail
    refine K.out.mono ?_
    rintro e w1 ⟨rfl, t1⟩
    have H1 := hid (HP.out.new t1)
    have T1 := hid t1
    clear t1 K HP
    go_wp2
    go_ret
    exact ⟨rfl, H1.out, T1.out.mono (fun _ _ e => e.elim)⟩

/-! ### Digits -/
abbrev Bs := List UInt8
def digB (c : UInt8) : Bool := decide (48 ≤ c.toNat ∧ c.toNat ≤ 57)
theorem dig_iff (c : UInt8) : digB c = true ↔ (48 ≤ c.toNat ∧ c.toNat ≤ 57) := by
  unfold digB
  rw [decide_eq_true_eq]
/-- With how many digits a text begins. -/
def dgn : Bs → Nat
  | [] => 0
  | c :: cs => if digB c = true then dgn cs + 1 else 0
theorem dgn_le : ∀ cs : Bs, dgn cs ≤ cs.length
  | [] => Nat.le_refl _
  | c :: cs => by
    have := dgn_le cs
    rw [dgn]
    split
    · simp only [List.length_cons]; omega
    · exact Nat.zero_le _
theorem byte_at (d : ByteArray) (i : Nat) (h : i < d.size) : d.data.toList.drop i = d[i] :: d.data.toList.drop (i + 1) := by
  rw [List.drop_eq_getElem_cons (by simpa using h)]
  rfl
def digitsE (n t : Nat) : Ending := if n = 0 then thrown 20 t else .returned (.tuple #[])
set_option maxRecDepth 100000 in
set_option maxHeartbeats 4000000 in
theorem digits_any (b : Nat) (s : ByteArray) (t d : Nat) (w : World) (h : Ps w b s t d) (hs : s.size ≤ 1048576) (ht : t ≤ s.size) :
    Calls Tryd.prog 66 #[.pointer (some ⟨b, 0, none⟩)] w fun e w' => e = digitsE (dgn (s.data.toList.drop t)) t ∧ Ps w' b s (t + dgn (s.data.toList.drop t)) d ∧ Touch (fun k => k = b) w w' := by
  obtain ⟨X, hX⟩ : ∃ X, X = dgn (s.data.toList.drop t) := ⟨_, rfl⟩
  have HX := hid hX.symm
  rw [← hX]
  clear hX
  have HP := hid h
  have c1 := h.c1
  clear h
  go_enter Tryd.func66, Tryd.ntmps66
  go_wp2_with fail
  clear c1
  go_loopg [] (s.size - t) (fun gk wq => ∃ k : Nat, t + k + gk = s.size ∧ Hid (Ps wq b s (t + k) d) ∧ Hid (k + dgn (s.data.toList.drop (t + k)) = X) ∧ Hid (Touch (fun k => k = b) w wq))
  case atStart => exact ⟨0, by omega, HP, hid (by rw [Nat.zero_add]; exact HX.out), hid (Touch.refl _ _)⟩
  case round =>
    obtain ⟨k, hk, HK, HD, TW⟩ := hrel
    have K := hid (fun w' (hp : Ps w' b s (t + k) d) => look_any b s (t + k) d w' hp hs (by omega))
    by_cases hlt : t + k < s.size
    · have el : lk s (t + k) = (s[t + k].toNat : Int) := by unfold lk; rw [at_opt s _ hlt]
      rw [el] at K
      rw [byte_at s (t + k) hlt, dgn] at HD
      have HDG := hid (dig_iff s[t + k])
      obtain ⟨x, hxe⟩ : ∃ x : Nat, x = s[t + k].toNat := ⟨_, rfl⟩
      rw [← hxe] at HDG K
      clear el
      by_cases hd : digB s[t + k] = true
      · rw [if_pos hd] at HD
        have hr := HDG.out.1 hd
        have h1 : (48 : Int) ≤ (x : Int) := by omega
        have h2 : (x : Int) ≤ 57 := by omega
        clear hd hxe
        go_wp2_with fail
        refine (K.out _ HK.out).mono ?_
        rintro e w1 ⟨rfl, t1⟩
        have H1 := hid (HK.out.new t1)
        have T1 := hid (TW.out.trans t1 (fun _ _ e => e.elim))
        clear t1 HK TW
        go_wp2_with fail
        refine (K.out _ H1.out).mono ?_
        rintro e w2 ⟨rfl, t2⟩
        have H2 := hid (H1.out.new t2)
        have T2 := hid (T1.out.trans t2 (fun _ _ e => e.elim))
        clear t2 H1 T1 K
        have c1 := H2.out.c1
        have f1 := H2.out.fr (i := 1)
        go_wp2
        have e1 : ((t + (k + 1) : Nat) : Int) = (t : Int) + (k : Int) + 1 := by omega
        have H3 := hid (H2.out.set (t + (k + 1)))
        rw [e1] at H3
        have T3 := hid (Touch.setCell (S := fun k => k = b) T2.out (p := ⟨b, 1, none⟩) (fun _ => rfl) (.int .i64 ((t : Int) + (k : Int) + 1)))
        go_roundg (gk - 1)
        case measure => omega
        case rel => exact ⟨k + 1, by omega, H3, hid (by have := HD.out; rw [show t + (k + 1) = t + k + 1 by omega]; omega), T3⟩
      · rw [if_neg hd, Nat.add_zero] at HD
        have HNR := hid (show ¬ (48 ≤ x ∧ x ≤ 57) from fun h => hd (HDG.out.2 h))
        clear hd hxe
        by_cases h1 : (48 : Int) ≤ (x : Int)
        · have h2 : ¬ (x : Int) ≤ 57 := by
            have := HNR.out
            omega
          go_wp2_with fail
          refine (K.out _ HK.out).mono ?_
          rintro e w1 ⟨rfl, t1⟩
          have H1 := hid (HK.out.new t1)
          have T1 := hid (TW.out.trans t1 (fun _ _ e => e.elim))
          clear t1 HK TW
          go_wp2_with fail
          refine (K.out _ H1.out).mono ?_
          rintro e w2 ⟨rfl, t2⟩
          have HL := hid (H1.out.new t2)
          have TL := hid (T1.out.trans t2 (fun _ _ e => e.elim))
          clear t2 H1 T1 K
          have HE := hid (show k = X from by have := HD.out; omega)
          clear HD
          by_cases hk0 : k = 0
          · subst hk0
            have KW := hid (wrong_any b s t d 20 _ (by simpa using HL.out))
            unfold thrown at KW
            have cL := HL.out.c1
            rw [Nat.add_zero] at cL
            go_wp2_with fail
            refine KW.out.mono ?_
            rintro e w5 ⟨rfl, t5⟩
            have T5 := hid (TL.out.trans t5 (fun _ _ e => e.elim))
            have H5 := hid (HL.out.new t5)
            clear t5
            go_wp2
            exact ⟨rfl, by rw [← HE.out]; rfl, by rw [← HE.out]; exact H5.out, T5.out⟩
          · have cL := HL.out.c1
            have hkI : ¬ (t : Int) + (k : Int) = (t : Int) := by omega
            have hkB : ((t : Int) + (k : Int) == (t : Int)) = false := beq_eq_false_iff_ne.2 hkI
            go_wp2
            go_end0
            exact ⟨by rw [← HE.out]; exact (if_neg hk0).symm, by rw [← HE.out]; exact HL.out, TL.out⟩
        · go_wp2_with fail
          refine (K.out _ HK.out).mono ?_
          rintro e w1 ⟨rfl, t1⟩
          have HL := hid (HK.out.new t1)
          have TL := hid (TW.out.trans t1 (fun _ _ e => e.elim))
          clear t1 HK TW K
          have HE := hid (show k = X from by have := HD.out; omega)
          clear HD
          by_cases hk0 : k = 0
          · subst hk0
            have KW := hid (wrong_any b s t d 20 _ (by simpa using HL.out))
            unfold thrown at KW
            have cL := HL.out.c1
            rw [Nat.add_zero] at cL
            go_wp2_with fail
            refine KW.out.mono ?_
            rintro e w5 ⟨rfl, t5⟩
            have T5 := hid (TL.out.trans t5 (fun _ _ e => e.elim))
            have H5 := hid (HL.out.new t5)
            clear t5
            go_wp2
            exact ⟨rfl, by rw [← HE.out]; rfl, by rw [← HE.out]; exact H5.out, T5.out⟩
          · have cL := HL.out.c1
            have hkI : ¬ (t : Int) + (k : Int) = (t : Int) := by omega
            have hkB : ((t : Int) + (k : Int) == (t : Int)) = false := beq_eq_false_iff_ne.2 hkI
            go_wp2
            go_end0
            exact ⟨by rw [← HE.out]; exact (if_neg hk0).symm, by rw [← HE.out]; exact HL.out, TL.out⟩
    · have el : lk s (t + k) = -1 := by unfold lk; rw [List.getElem?_eq_none (by rw [size_list]; omega)]
      rw [el] at K
      rw [List.drop_eq_nil_of_le (by rw [size_list]; omega), dgn, Nat.add_zero] at HD
      clear el
      go_wp2_with fail
      refine (K.out _ HK.out).mono ?_
      rintro e w1 ⟨rfl, t1⟩
      have HL := hid (HK.out.new t1)
      have TL := hid (TW.out.trans t1 (fun _ _ e => e.elim))
      clear t1 HK TW K
      have HE := hid (show k = X from by have := HD.out; omega)
      clear HD
      by_cases hk0 : k = 0
      · subst hk0
        have KW := hid (wrong_any b s t d 20 _ (by simpa using HL.out))
        unfold thrown at KW
        have cL := HL.out.c1
        rw [Nat.add_zero] at cL
        go_wp2_with fail
        refine KW.out.mono ?_
        rintro e w5 ⟨rfl, t5⟩
        have T5 := hid (TL.out.trans t5 (fun _ _ e => e.elim))
        have H5 := hid (HL.out.new t5)
        clear t5
        go_wp2
        exact ⟨rfl, by rw [← HE.out]; rfl, by rw [← HE.out]; exact H5.out, T5.out⟩
      · have cL := HL.out.c1
        have hkI : ¬ (t : Int) + (k : Int) = (t : Int) := by omega
        have hkB : ((t : Int) + (k : Int) == (t : Int)) = false := beq_eq_false_iff_ne.2 hkI
        go_wp2
        go_end0
        exact ⟨by rw [← HE.out]; exact (if_neg hk0).symm, by rw [← HE.out]; exact HL.out, TL.out⟩
end Go.Proofs.YtjpmjcadnnglnaaDoor
