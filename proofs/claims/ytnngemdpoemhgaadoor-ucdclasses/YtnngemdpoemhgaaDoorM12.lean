/- Texts of this proof, one behind the other: what each says stands ahead of it. -/
import Derived.Test.YtnngemdpoemhgaaDoorM11
import Derived.Laws.BytesArg
/- The document's In at the names that are made of others; no condition. -/
namespace Go.Proofs.YtnngemdpoemhgaaDoor
open Go.RowKit

theorem hasB_app (x : Int) (l m : List R2) : hasB x (l ++ m) = (hasB x l || hasB x m) := by simp [hasB]
theorem InSays.here {s : ByteArray} {l : List R2} (h : InSays s l false) (r : Int) (hd : decide (0 ≤ r ∧ r ≤ 1114111) = true) (w : World) : Calls Tryd.prog 23 #[.string s, .int .i64 r] w fun e w' => e = .returned (.bool (hasB r l)) ∧ Touch (fun _ => False) w w' := by
  have := h r w
  rw [hd] at this
  simpa using this
theorem conv1 (w : World) (n : Int) : (convert 40 9 (.slice (some ⟨w.heap.size, 0, none⟩) 1 1)).run Tryd.prog (w.alloc (.cells #[.int .u8 n] 5)) = .ok (.string (strOfNums [n])) (w.alloc (.cells #[.int .u8 n] 5)) := by
  refine run_convert_bytes_arg (P := Tryd.prog) (w := w.alloc (.cells #[.int .u8 n] 5)) 40 5 Tryd.underlying40 Tryd.underlying5 w.heap.size 0 1 1 [n] rfl (fun i hi => ?_) 9 Tryd.underlying9
  obtain rfl : i = 0 := by omega
  rw [World.cell?_alloc_at _ _ _ _ (by simp)]
  rfl
theorem has_any {r : Int} (h : 0 ≤ r ∧ r ≤ 1114111) : hasB r lAny = true := hasB_iff.2 ⟨(0, 1114111), by simp [lAny], h.1, h.2⟩

set_option maxRecDepth 100000 in
set_option maxHeartbeats 4000000 in
theorem in_Any : InSays ⟨#[65, 110, 121]⟩ lAny false := by
  intro r w
  go_enter Tryd.func23, Tryd.ntmps23
  rcases out_cases r with ⟨h0, h1, hd⟩ | ⟨h0, hd⟩ | ⟨h0, h1, hd⟩
  · have HD := hid hd
    rw [hd]
    clear hd
    have HA := hid (has_any ⟨h0, h1⟩)
    go_wp2
    go_ret
    rw [HA.out]
    exact ⟨rfl, Touch.refl _ _⟩
  · rw [hd]
    clear hd
    go_wp2
    go_ret
    exact ⟨rfl, Touch.refl _ _⟩
  · rw [hd]
    clear hd
    go_wp2
    go_ret
    exact ⟨rfl, Touch.refl _ _⟩

set_option maxRecDepth 100000 in
set_option maxHeartbeats 4000000 in
theorem in_L : InSays ⟨#[76]⟩ lL false := by
  intro r w
  go_enter Tryd.func23, Tryd.ntmps23
  rcases out_cases r with ⟨h0, h1, hd⟩ | ⟨h0, hd⟩ | ⟨h0, h1, hd⟩
  · have HD := hid hd
    rw [hd]
    clear hd
    have HAP := hid (show hasB r lL = ((hasB r lLu || hasB r lLl) || hasB r lLo) by rw [show lL = lLu ++ lLl ++ lLo from rfl, hasB_app, hasB_app])
    have K1 := hid (fun wq => in_Lu.here r HD.out wq)
    have K2 := hid (fun wq => in_Ll.here r HD.out wq)
    have K3 := hid (fun wq => in_Lo.here r HD.out wq)
    generalize hasB r lLu = A1 at *
    generalize hasB r lLl = A2 at *
    generalize hasB r lLo = A3 at *
    generalize hasB r lL = A at *
    go_wp2_with fail
    refine (K1.out w).mono ?_
    rintro e w1 ⟨rfl, t1⟩
    have T1 := hid t1
    clear t1
    cases A1
    · go_wp2_with fail
      refine (K2.out w1).mono ?_
      rintro e w2 ⟨rfl, t2⟩
      have T2 := hid (T1.out.trans t2 (fun _ _ e => e))
      clear t2
      cases A2
      · go_wp2_with fail
        refine (K3.out w2).mono ?_
        rintro e w3 ⟨rfl, t3⟩
        have T3 := hid (T2.out.trans t3 (fun _ _ e => e))
        clear t3
        go_wp2
        go_ret
        rw [HAP.out]
        exact ⟨by simp, T3.out⟩
      · go_wp2
        go_ret
        rw [HAP.out]
        exact ⟨by simp, T2.out⟩
    · go_wp2
      go_ret
      rw [HAP.out]
      exact ⟨by simp, T1.out⟩
  · rw [hd]
    clear hd
    go_wp2
    go_ret
    exact ⟨rfl, Touch.refl _ _⟩
  · rw [hd]
    clear hd
    go_wp2
    go_ret
    exact ⟨rfl, Touch.refl _ _⟩

set_option maxRecDepth 100000 in
set_option maxHeartbeats 4000000 in
theorem in_N : InSays ⟨#[78]⟩ lNd false := by
  intro r w
  go_enter Tryd.func23, Tryd.ntmps23
  rcases out_cases r with ⟨h0, h1, hd⟩ | ⟨h0, hd⟩ | ⟨h0, h1, hd⟩
  · have HD := hid hd
    rw [hd]
    clear hd
    go_wp2_with fail
    refine (in_Nd.here r HD.out w).mono ?_
    rintro e w1 ⟨rfl, t1⟩
    have T1 := hid t1
    clear t1
    go_wp2
    go_ret
    exact ⟨by simp, T1.out⟩
  · rw [hd]
    clear hd
    go_wp2
    go_ret
    exact ⟨rfl, Touch.refl _ _⟩
  · rw [hd]
    clear hd
    go_wp2
    go_ret
    exact ⟨rfl, Touch.refl _ _⟩

set_option maxRecDepth 100000 in
set_option maxHeartbeats 4000000 in
theorem in_d : InSays ⟨#[100]⟩ lNd false := by
  intro r w
  go_enter Tryd.func23, Tryd.ntmps23
  rcases out_cases r with ⟨h0, h1, hd⟩ | ⟨h0, hd⟩ | ⟨h0, h1, hd⟩
  · have HD := hid hd
    rw [hd]
    clear hd
    go_wp2_with fail
    refine (in_Nd.here r HD.out w).mono ?_
    rintro e w1 ⟨rfl, t1⟩
    have T1 := hid t1
    clear t1
    go_wp2
    go_ret
    exact ⟨by simp, T1.out⟩
  · rw [hd]
    clear hd
    go_wp2
    go_ret
    exact ⟨rfl, Touch.refl _ _⟩
  · rw [hd]
    clear hd
    go_wp2
    go_ret
    exact ⟨rfl, Touch.refl _ _⟩

set_option maxRecDepth 100000 in
set_option maxHeartbeats 4000000 in
theorem in_s : InSays ⟨#[115]⟩ lBl false := by
  intro r w
  go_enter Tryd.func23, Tryd.ntmps23
  rcases out_cases r with ⟨h0, h1, hd⟩ | ⟨h0, hd⟩ | ⟨h0, h1, hd⟩
  · have HD := hid hd
    rw [hd]
    clear hd
    go_wp2_with fail
    refine (in_space.here r HD.out w).mono ?_
    rintro e w1 ⟨rfl, t1⟩
    have T1 := hid t1
    clear t1
    go_wp2
    go_ret
    exact ⟨by simp, T1.out⟩
  · rw [hd]
    clear hd
    go_wp2
    go_ret
    exact ⟨rfl, Touch.refl _ _⟩
  · rw [hd]
    clear hd
    go_wp2
    go_ret
    exact ⟨rfl, Touch.refl _ _⟩

set_option maxRecDepth 100000 in
set_option maxHeartbeats 4000000 in
theorem in_w : InSays ⟨#[119]⟩ lW false := by
  intro r w
  go_enter Tryd.func23, Tryd.ntmps23
  rcases out_cases r with ⟨h0, h1, hd⟩ | ⟨h0, hd⟩ | ⟨h0, h1, hd⟩
  · have HD := hid hd
    rw [hd]
    clear hd
    have HAP := hid (show hasB r lW = ((hasB r lL || hasB r lNd) || hasB r lPc) by rw [show lW = lL ++ lNd ++ lPc from rfl, hasB_app, hasB_app])
    have K1 := hid (fun wq => in_L.here r HD.out wq)
    have K2 := hid (fun wq => in_Nd.here r HD.out wq)
    have K3 := hid (fun wq => in_Pc.here r HD.out wq)
    generalize hasB r lL = A1 at *
    generalize hasB r lNd = A2 at *
    generalize hasB r lPc = A3 at *
    generalize hasB r lW = A at *
    go_wp2_with fail
    refine (K1.out w).mono ?_
    rintro e w1 ⟨rfl, t1⟩
    have T1 := hid t1
    clear t1
    cases A1
    · go_wp2_with fail
      refine (K2.out w1).mono ?_
      rintro e w2 ⟨rfl, t2⟩
      have T2 := hid (T1.out.trans t2 (fun _ _ e => e))
      clear t2
      cases A2
      · go_wp2_with fail
        refine (K3.out w2).mono ?_
        rintro e w3 ⟨rfl, t3⟩
        have T3 := hid (T2.out.trans t3 (fun _ _ e => e))
        clear t3
        go_wp2
        go_ret
        rw [HAP.out]
        exact ⟨by simp, T3.out⟩
      · go_wp2
        go_ret
        rw [HAP.out]
        exact ⟨by simp, T2.out⟩
    · go_wp2
      go_ret
      rw [HAP.out]
      exact ⟨by simp, T1.out⟩
  · rw [hd]
    clear hd
    go_wp2
    go_ret
    exact ⟨rfl, Touch.refl _ _⟩
  · rw [hd]
    clear hd
    go_wp2
    go_ret
    exact ⟨rfl, Touch.refl _ _⟩

set_option maxRecDepth 100000 in
set_option maxHeartbeats 4000000 in
theorem in_D : InSays ⟨#[68]⟩ lNd true := by
  intro r w
  go_enter Tryd.func23, Tryd.ntmps23
  rcases out_cases r with ⟨h0, h1, hd⟩ | ⟨h0, hd⟩ | ⟨h0, h1, hd⟩
  · have HD := hid hd
    rw [hd]
    clear hd
    go_wp2_with fail
    rw [conv1 w _]
    go_wp2_with fail
    change Calls Tryd.prog 23 #[.string ⟨#[100]⟩, .int .i64 r] _ _
    refine (in_d.here r HD.out _).mono ?_
    rintro e w1 ⟨rfl, t1⟩
    have T1 := hid t1
    clear t1
    go_wp2
    go_ret
    exact ⟨by simp, by first | exact T1.out | exact ((Touch.refl _ w).alloc _).trans T1.out (fun _ _ e => e)⟩
  · rw [hd]
    clear hd
    go_wp2
    go_ret
    exact ⟨rfl, Touch.refl _ _⟩
  · rw [hd]
    clear hd
    go_wp2
    go_ret
    exact ⟨rfl, Touch.refl _ _⟩

set_option maxRecDepth 100000 in
set_option maxHeartbeats 4000000 in
theorem in_S : InSays ⟨#[83]⟩ lBl true := by
  intro r w
  go_enter Tryd.func23, Tryd.ntmps23
  rcases out_cases r with ⟨h0, h1, hd⟩ | ⟨h0, hd⟩ | ⟨h0, h1, hd⟩
  · have HD := hid hd
    rw [hd]
    clear hd
    go_wp2_with fail
    rw [conv1 w _]
    go_wp2_with fail
    change Calls Tryd.prog 23 #[.string ⟨#[115]⟩, .int .i64 r] _ _
    refine (in_s.here r HD.out _).mono ?_
    rintro e w1 ⟨rfl, t1⟩
    have T1 := hid t1
    clear t1
    go_wp2
    go_ret
    exact ⟨by simp, by first | exact T1.out | exact ((Touch.refl _ w).alloc _).trans T1.out (fun _ _ e => e)⟩
  · rw [hd]
    clear hd
    go_wp2
    go_ret
    exact ⟨rfl, Touch.refl _ _⟩
  · rw [hd]
    clear hd
    go_wp2
    go_ret
    exact ⟨rfl, Touch.refl _ _⟩

set_option maxRecDepth 100000 in
set_option maxHeartbeats 4000000 in
theorem in_W : InSays ⟨#[87]⟩ lW true := by
  intro r w
  go_enter Tryd.func23, Tryd.ntmps23
  rcases out_cases r with ⟨h0, h1, hd⟩ | ⟨h0, hd⟩ | ⟨h0, h1, hd⟩
  · have HD := hid hd
    rw [hd]
    clear hd
    go_wp2_with fail
    rw [conv1 w _]
    go_wp2_with fail
    change Calls Tryd.prog 23 #[.string ⟨#[119]⟩, .int .i64 r] _ _
    refine (in_w.here r HD.out _).mono ?_
    rintro e w1 ⟨rfl, t1⟩
    have T1 := hid t1
    clear t1
    go_wp2
    go_ret
    exact ⟨by simp, by first | exact T1.out | exact ((Touch.refl _ w).alloc _).trans T1.out (fun _ _ e => e)⟩
  · rw [hd]
    clear hd
    go_wp2
    go_ret
    exact ⟨rfl, Touch.refl _ _⟩
  · rw [hd]
    clear hd
    go_wp2
    go_ret
    exact ⟨rfl, Touch.refl _ _⟩

end Go.Proofs.YtnngemdpoemhgaaDoor
