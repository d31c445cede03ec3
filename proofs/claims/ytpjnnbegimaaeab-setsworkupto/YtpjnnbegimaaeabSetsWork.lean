/- SetsWork, for all inputs of at most 1048576 values together: any two lists of ranges, as sets, and all that is made of them. -/
import Derived.Test.YtpjnnbegimaaeabM9
import Derived.Test.YtpjnnbegimaaeabM10
namespace Go.Proofs.Ytpjnnbegimaaeab
open Go.ChangeShapes Go.WideShapes Go.ChangeAt Go.RowKit

theorem setsWork_walk (a1 : Option Addr) (c1 : Nat) (l : List R2) (a2 : Option Addr) (c2 : Nat) (m : List R2) (r : Int) (w : World) (hl : Rg w a1 l) (hb : l.length ≤ 1048576) (hm : Rg w a2 m) (hb2 : m.length ≤ 1048576) :
    Calls Try.prog 6 #[.slice a1 l.length c1, .slice a2 m.length c2, .int .i64 r] w fun e w' => e = .returned (.bool true) ∧ Below w.heap.size w w' := by
  by_cases hr : 0 ≤ r ∧ r ≤ 1114111
  · exact setsWork_in a1 c1 l a2 c2 m r w hr hl hb hm hb2
  · exact setsWork_out a1 c1 l a2 c2 m r w hr hl hb hm hb2

set_option maxRecDepth 100000 in
theorem setsWork_contract (H : Type) (enc : TypeId × Value → H) (W : World) (base : Nat) (args : Array Value) (ds gs : List (DataW H)) (before : List MemPlace)
    (hval : ∀ (j : Nat) t v, Try.f6.params[j]? = some t → args[j]? = some v → Value.okWide Try.prog W .any base t v)
    (hW : DataW.Whole enc Try.prog Try.f6.params.toList Rows.setsWorkSpec.vars false W args.toList ds gs before) (hk : Rows.uptoSmall H (ds ++ gs) = true) :
    Calls Try.prog 6 args W fun e W' => ∃ v, e = .returned v ∧ Rows.setsWorkSpec.post enc Try.prog Try.f6 false true false false W args v W' := by
  have hW' := hW
  obtain ⟨p, q, hA0, hV, rfl, hfz, hnd⟩ := hW
  have hA : DataW.TrodAll enc Try.prog W 0 (fun _ => true) true Try.f6.params.toList args.toList ds p := hA0
  rw [Try.params6] at hA hval
  obtain ⟨v0, vs0, d0, ds0, p0, q0, hargs, rfl, rfl, h0, r0⟩ := trodAll_cons hA
  obtain ⟨v1, vs1, d1, ds1, p1, q1, rfl, rfl, rfl, h1, r1⟩ := trodAll_cons r0
  obtain ⟨v2, vs2, d2, ds2, p2, q2, rfl, rfl, rfl, h2, r2⟩ := trodAll_cons r1
  obtain ⟨rfl, rfl, rfl⟩ := trodAll_nil r2
  obtain rfl : args = #[v0, v1, v2] := by cases args; simp_all
  obtain ⟨rfl, rfl⟩ := trodVars_none hV
  have hb : Rows.uptoBulkAll ([d0, d1, d2] ++ ([] : List (DataW H))) ≤ 1048576 := of_decide_eq_true hk
  simp only [List.append_nil, Rows.uptoBulkAll] at hb
  obtain ⟨a0, len0, cap0, rfl⟩ := okWide_slice Try.underlying22 (hval 0 22 v0 rfl rfl)
  have k0 := h0
  have lt0 : ∀ x ∈ p0, x.block < W.heap.size := by obtain ⟨m, hm⟩ := k0; exact DataW.trod_lt m _ _ _ hm
  obtain ⟨l0, rfl, w0, y0⟩ : ∃ l : List R2, len0 = l.length ∧ Rg W a0 l ∧ l.length ≤ Rows.uptoBulk d0 := by
    rcases open_ranges h0 with ⟨rfl, rfl, rfl, rfl⟩ | ⟨x, q, sp, rfl, hl, hsp, rfl, hcell⟩
    · exact ⟨[], rfl, .inl rfl, Nat.zero_le _⟩
    · refine ⟨(List.range len0).map q, by simp, rg_of hcell, ?_⟩
      rw [Rows.uptoBulk]
      have := bulk_ranges (H := H) q (List.range len0)
      rw [List.length_map]
      omega
  obtain ⟨a1, len1, cap1, rfl⟩ := okWide_slice Try.underlying22 (hval 1 22 v1 rfl rfl)
  have k1 := h1
  have lt1 : ∀ x ∈ p1, x.block < W.heap.size := by obtain ⟨m, hm⟩ := k1; exact DataW.trod_lt m _ _ _ hm
  obtain ⟨l1, rfl, w1, y1⟩ : ∃ l : List R2, len1 = l.length ∧ Rg W a1 l ∧ l.length ≤ Rows.uptoBulk d1 := by
    rcases open_ranges h1 with ⟨rfl, rfl, rfl, rfl⟩ | ⟨x, q, sp, rfl, hl, hsp, rfl, hcell⟩
    · exact ⟨[], rfl, .inl rfl, Nat.zero_le _⟩
    · refine ⟨(List.range len1).map q, by simp, rg_of hcell, ?_⟩
      rw [Rows.uptoBulk]
      have := bulk_ranges (H := H) q (List.range len1)
      rw [List.length_map]
      omega
  obtain ⟨a2, rfl, rfl, rfl, w2⟩ := open_int Try.underlying3 (hval 2 3 v2 rfl rfl) h2
  clear hA0
  refine (setsWork_walk a0 cap0 l0 a1 cap1 l1 a2 W w0 (by omega) w1 (by omega)).mono fun e W' ⟨he, bel⟩ => ?_
  subst he
  exact ⟨_, rfl, _, _, _, [], _, [], hW', trodAll_mk1 (shut_bool Try.underlying4 _), (trodAll_cons_mk (Below.trod laidOut (by kernel_rfl) (of_decide_eq_true (by kernel_rfl)) k0 bel lt0) (trodAll_cons_mk (Below.trod laidOut (by kernel_rfl) (of_decide_eq_true (by kernel_rfl)) k1 bel lt1) (trodAll_cons_mk (shut_int Try.underlying3 w2) trodAll_mk0))), rfl, bel.frame _, fun h => by cases h⟩

set_option maxRecDepth 100000 in
theorem setsWork_lifted (os : Os) (started : os.Started) (H : Type) (enc : TypeId × Value → H) (F : Stop.Interp) :
    ReturnsInHanded {} Try.checked os 6 .any ((Rows.OpenSpec.upto Rows.setsWorkSpec).pre6 enc Try.prog Try.f6 Rows.setsWorkUptoRow.domain false) (((Rows.OpenSpec.upto Rows.setsWorkSpec).at F).post enc Try.prog Try.f6 false true false false) := by
  refine returnsInHanded_of_cond (C := Try.checked) (s := Rows.OpenSpec.upto Rows.setsWorkSpec) (k := Rows.uptoSmall) rfl own started (by kernel_rfl) Try.func6
    (OpenSpec.witness (enc := enc) (C := Try.checked) (s := Rows.OpenSpec.upto Rows.setsWorkSpec) (k := Rows.uptoSmall) rfl false ⟨#[], #[.slice none 0 0, .slice none 0 0, .int .i64 0], []⟩ 8 (by kernel_rfl) (by kernel_rfl) (by kernel_rfl)
      (x := ([.nil, .nil, .lit (.int .i64 0)], [], [])) (by kernel_rfl) rfl (by kernel_rfl)) ?_
  intro W base args ds gs before hval hW _ hk _
  exact setsWork_contract H enc W base args ds gs before hval hW hk

theorem setsWork_holds : Rows.SetsWorkUptoSaid :=
  OpenClaim.holds_of_cond 6 Try.f6 rfl rfl rfl rfl rfl rfl rfl ⟨rfl, rfl, rfl, rfl, rfl⟩ rfl rfl rfl rfl rfl (by kernel_rfl) Try.func6 (by kernel_rfl)
    (of_decide_eq_true (by kernel_rfl)) (by unfold Func.isWrapper; first | (rw [if_pos (by decide +kernel)]; kernel_rfl) | (rw [if_neg (by decide +kernel)]; exact ⟨rfl, rfl⟩))
    (fun os started H enc _ F => setsWork_lifted os started H enc F)
#print axioms setsWork_holds
end Go.Proofs.Ytpjnnbegimaaeab
