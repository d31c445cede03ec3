/- Texts of this proof, one behind the other: what each says stands ahead of it. -/
import Derived.Test.YtnngemdpoemhgaaDoorM9
import Derived.Test.YtnngemdpoemhgaaDoorM10
/- The document's In at each name that the laws ask for; no condition. -/
namespace Go.Proofs.YtnngemdpoemhgaaDoor
open Go.RowKit

/-- Both ends of each range, one behind the other. -/
def ends (l : List R2) : List Int := l.flatMap fun r => [r.1, r.2]
theorem ends_len (l : List R2) : (ends l).length = l.length * 2 := by
  induction l with
  | nil => rfl
  | cons x r ih => simp only [ends, List.flatMap_cons, List.length_append, List.length_cons] at ih ⊢; rw [ih]; simp; omega
theorem flat_ends (l : List R2) : flatR l = (ends l).map (Value.int .i64) := by
  induction l with
  | nil => rfl
  | cons x r ih => simp only [flatR, ends, List.flatMap_cons, List.map_append] at ih ⊢; rw [ih]; rfl
theorem ends_get (l : List R2) (i : Nat) (h : i < l.length) : (ends l)[2 * i]? = some (l[i]).1 ∧ (ends l)[2 * i + 1]? = some (l[i]).2 := by
  have h0 := flatR_get0 l i h
  have h1 := flatR_get1 l i h
  rw [flat_ends, List.getElem?_map] at h0 h1
  obtain ⟨a, ha, e⟩ := Option.map_eq_some_iff.1 h0
  obtain ⟨b, hb, f⟩ := Option.map_eq_some_iff.1 h1
  injection e with _ e
  injection f with _ f
  rw [ha, hb, e, f]
  exact ⟨rfl, rfl⟩
theorem ig_alloc (w : World) (e : List Int) (t : TypeId) : Ig (w.alloc (.cells (e.map (Value.int .i64)).toArray t)) (some ⟨w.heap.size, 0, none⟩) e := by
  refine ⟨w.heap.size, rfl, by simp, fun i hi => ?_⟩
  have := row_new w (e.map (Value.int .i64)) t i (.int .i64 e[i]) (by simp [hi])
  rwa [add_g] at this
theorem hasB_step (l : List R2) (k : Nat) (h : k < l.length) (x : Int) : hasB x (l.take (k + 1)) = (hasB x (l.take k) || (decide ((l[k]).1 ≤ x) && decide (x ≤ (l[k]).2))) := by
  unfold hasB
  rw [List.take_succ_eq_append_getElem h, List.any_append]
  simp only [List.any_cons, List.any_nil, Bool.or_false]
theorem hasB_found (l : List R2) (k : Nat) (h : k < l.length) (x : Int) (h1 : (l[k]).1 ≤ x) (h2 : x ≤ (l[k]).2) : hasB x l = true := hasB_iff.2 ⟨l[k], List.getElem_mem _, h1, h2⟩

set_option maxRecDepth 100000 in
set_option maxHeartbeats 4000000 in
theorem in43 (a : Option Addr) (cap : Nat) (l : List R2) (x : Int) (w : World) (hi : Ig w a (ends l)) (hb : l.length ≤ 100) :
    Calls Tryd.prog 43 #[.slice a (ends l).length cap, .int .i64 x] w fun e w' => e = .returned (.bool (hasB x l)) ∧ w = w' := by
  obtain ⟨b, rfl, _, hc⟩ := hi
  have HC := hid hc
  clear hc
  rw [ends_len]
  go_enter Tryd.func43, Tryd.ntmps43
  go_wp2_with fail
  go_loopg [5] l.length (fun gk i wr => ∃ k : Nat, k + gk = l.length ∧ i = .int .i64 ((2 * k : Nat) : Int) ∧ hasB x (l.take k) = false ∧ w = wr)
  case atStart => exact ⟨0, by omega, rfl, rfl, rfl⟩
  case round =>
    obtain ⟨k, hk, rfl, hno, rfl⟩ := hrel
    have HN := hid hno
    clear hno
    by_cases hlt : k < l.length
    · obtain ⟨g0, g1⟩ := ends_get l k hlt
      have hl := ends_len l
      have d0 := HC.out (2 * k) (by omega)
      have d1 := HC.out (2 * k + 1) (by omega)
      rw [show (ends l)[2 * k]'(by omega) = (l[k]).1 by rw [List.getElem?_eq_getElem (by omega)] at g0; exact Option.some.inj g0] at d0
      rw [show (ends l)[2 * k + 1]'(by omega) = (l[k]).2 by rw [List.getElem?_eq_getElem (by omega)] at g1; exact Option.some.inj g1] at d1
      have HS := hid (hasB_step l k hlt x)
      have HF := hid (hasB_found l k hlt x)
      rw [HN.out] at HS
      obtain ⟨r, hr⟩ : ∃ r, r = l[k] := ⟨_, rfl⟩
      rw [← hr] at d0 d1 HS HF
      obtain ⟨y, z⟩ := r
      dsimp only at d0 d1 HS HF
      clear g0 g1 hl hr
      by_cases h1 : y ≤ x
      · by_cases h2 : x ≤ z
        · have HT := hid (HF.out h1 h2)
          go_wp2
          go_ret
          rw [HT.out]
          exact ⟨rfl, rfl⟩
        · have HH := hid (show hasB x (l.take (k + 1)) = false by rw [HS.out]; simp [h2])
          go_wp2
          go_roundg (gk - 1)
          case measure => omega
          case rel => exact ⟨k + 1, by omega, by go_num, HH.out, rfl⟩
      · have HH := hid (show hasB x (l.take (k + 1)) = false by rw [HS.out]; simp [h1])
        go_wp2
        go_roundg (gk - 1)
        case measure => omega
        case rel => exact ⟨k + 1, by omega, by go_num, HH.out, rfl⟩
    · obtain rfl : k = l.length := by omega
      rw [List.take_length] at HN
      go_wp2
      go_ret
      rw [HN.out]
      exact ⟨rfl, rfl⟩

set_option maxRecDepth 100000 in
theorem ranges_Lu (w : World) : Calls Tryd.prog 44 #[.string ⟨#[76, 117]⟩] w fun e w' => ∃ a c, e = .returned (.slice a (ends lLu).length c) ∧ Ig w' a (ends lLu) ∧ Touch (fun _ => False) w w' := by
  go_enter Tryd.func44, Tryd.ntmps44
  go_wp2
  go_ret
  exact ⟨_, _, rfl, ig_alloc w (ends lLu) 3, (Touch.refl _ w).alloc _⟩

set_option maxRecDepth 100000 in
theorem ranges_Ll (w : World) : Calls Tryd.prog 44 #[.string ⟨#[76, 108]⟩] w fun e w' => ∃ a c, e = .returned (.slice a (ends lLl).length c) ∧ Ig w' a (ends lLl) ∧ Touch (fun _ => False) w w' := by
  go_enter Tryd.func44, Tryd.ntmps44
  go_wp2
  go_ret
  exact ⟨_, _, rfl, ig_alloc w (ends lLl) 3, (Touch.refl _ w).alloc _⟩

set_option maxRecDepth 100000 in
theorem ranges_Lo (w : World) : Calls Tryd.prog 44 #[.string ⟨#[76, 111]⟩] w fun e w' => ∃ a c, e = .returned (.slice a (ends lLo).length c) ∧ Ig w' a (ends lLo) ∧ Touch (fun _ => False) w w' := by
  go_enter Tryd.func44, Tryd.ntmps44
  go_wp2
  go_ret
  exact ⟨_, _, rfl, ig_alloc w (ends lLo) 3, (Touch.refl _ w).alloc _⟩

set_option maxRecDepth 100000 in
theorem ranges_Nd (w : World) : Calls Tryd.prog 44 #[.string ⟨#[78, 100]⟩] w fun e w' => ∃ a c, e = .returned (.slice a (ends lNd).length c) ∧ Ig w' a (ends lNd) ∧ Touch (fun _ => False) w w' := by
  go_enter Tryd.func44, Tryd.ntmps44
  go_wp2
  go_ret
  exact ⟨_, _, rfl, ig_alloc w (ends lNd) 3, (Touch.refl _ w).alloc _⟩

set_option maxRecDepth 100000 in
theorem ranges_Pc (w : World) : Calls Tryd.prog 44 #[.string ⟨#[80, 99]⟩] w fun e w' => ∃ a c, e = .returned (.slice a (ends lPc).length c) ∧ Ig w' a (ends lPc) ∧ Touch (fun _ => False) w w' := by
  go_enter Tryd.func44, Tryd.ntmps44
  go_wp2
  go_ret
  exact ⟨_, _, rfl, ig_alloc w (ends lPc) 3, (Touch.refl _ w).alloc _⟩

set_option maxRecDepth 100000 in
theorem ranges_Zs (w : World) : Calls Tryd.prog 44 #[.string ⟨#[90, 115]⟩] w fun e w' => ∃ a c, e = .returned (.slice a (ends lZs).length c) ∧ Ig w' a (ends lZs) ∧ Touch (fun _ => False) w w' := by
  go_enter Tryd.func44, Tryd.ntmps44
  go_wp2
  go_ret
  exact ⟨_, _, rfl, ig_alloc w (ends lZs) 3, (Touch.refl _ w).alloc _⟩

set_option maxRecDepth 100000 in
theorem ranges_P (w : World) : Calls Tryd.prog 44 #[.string ⟨#[80]⟩] w fun e w' => ∃ a c, e = .returned (.slice a (ends lP).length c) ∧ Ig w' a (ends lP) ∧ Touch (fun _ => False) w w' := by
  go_enter Tryd.func44, Tryd.ntmps44
  go_wp2
  go_ret
  exact ⟨_, _, rfl, ig_alloc w (ends lP) 3, (Touch.refl _ w).alloc _⟩

def lLatin : List R2 := [(65, 90), (97, 122), (170, 170), (186, 186), (192, 214), (216, 246), (248, 591), (8490, 8491)]
set_option maxRecDepth 100000 in
theorem ranges_Latin (w : World) : Calls Tryd.prog 44 #[.string ⟨#[76, 97, 116, 105, 110]⟩] w fun e w' => ∃ a c, e = .returned (.slice a (ends lLatin).length c) ∧ Ig w' a (ends lLatin) ∧ Touch (fun _ => False) w w' := by
  go_enter Tryd.func44, Tryd.ntmps44
  go_wp2
  go_ret
  exact ⟨_, _, rfl, ig_alloc w (ends lLatin) 3, (Touch.refl _ w).alloc _⟩

def lGreek : List R2 := [(913, 929), (931, 993)]
set_option maxRecDepth 100000 in
theorem ranges_Greek (w : World) : Calls Tryd.prog 44 #[.string ⟨#[71, 114, 101, 101, 107]⟩] w fun e w' => ∃ a c, e = .returned (.slice a (ends lGreek).length c) ∧ Ig w' a (ends lGreek) ∧ Touch (fun _ => False) w w' := by
  go_enter Tryd.func44, Tryd.ntmps44
  go_wp2
  go_ret
  exact ⟨_, _, rfl, ig_alloc w (ends lGreek) 3, (Touch.refl _ w).alloc _⟩

def lCyrillic : List R2 := [(1024, 1156)]
set_option maxRecDepth 100000 in
theorem ranges_Cyrillic (w : World) : Calls Tryd.prog 44 #[.string ⟨#[67, 121, 114, 105, 108, 108, 105, 99]⟩] w fun e w' => ∃ a c, e = .returned (.slice a (ends lCyrillic).length c) ∧ Ig w' a (ends lCyrillic) ∧ Touch (fun _ => False) w w' := by
  go_enter Tryd.func44, Tryd.ntmps44
  go_wp2
  go_ret
  exact ⟨_, _, rfl, ig_alloc w (ends lCyrillic) 3, (Touch.refl _ w).alloc _⟩

def lHebrew : List R2 := [(1488, 1514)]
set_option maxRecDepth 100000 in
theorem ranges_Hebrew (w : World) : Calls Tryd.prog 44 #[.string ⟨#[72, 101, 98, 114, 101, 119]⟩] w fun e w' => ∃ a c, e = .returned (.slice a (ends lHebrew).length c) ∧ Ig w' a (ends lHebrew) ∧ Touch (fun _ => False) w w' := by
  go_enter Tryd.func44, Tryd.ntmps44
  go_wp2
  go_ret
  exact ⟨_, _, rfl, ig_alloc w (ends lHebrew) 3, (Touch.refl _ w).alloc _⟩

def lHiragana : List R2 := [(12353, 12438)]
set_option maxRecDepth 100000 in
theorem ranges_Hiragana (w : World) : Calls Tryd.prog 44 #[.string ⟨#[72, 105, 114, 97, 103, 97, 110, 97]⟩] w fun e w' => ∃ a c, e = .returned (.slice a (ends lHiragana).length c) ∧ Ig w' a (ends lHiragana) ∧ Touch (fun _ => False) w w' := by
  go_enter Tryd.func44, Tryd.ntmps44
  go_wp2
  go_ret
  exact ⟨_, _, rfl, ig_alloc w (ends lHiragana) 3, (Touch.refl _ w).alloc _⟩

def lKatakana : List R2 := [(12449, 12538)]
set_option maxRecDepth 100000 in
theorem ranges_Katakana (w : World) : Calls Tryd.prog 44 #[.string ⟨#[75, 97, 116, 97, 107, 97, 110, 97]⟩] w fun e w' => ∃ a c, e = .returned (.slice a (ends lKatakana).length c) ∧ Ig w' a (ends lKatakana) ∧ Touch (fun _ => False) w w' := by
  go_enter Tryd.func44, Tryd.ntmps44
  go_wp2
  go_ret
  exact ⟨_, _, rfl, ig_alloc w (ends lKatakana) 3, (Touch.refl _ w).alloc _⟩

def lHan : List R2 := [(19968, 40959)]
set_option maxRecDepth 100000 in
theorem ranges_Han (w : World) : Calls Tryd.prog 44 #[.string ⟨#[72, 97, 110]⟩] w fun e w' => ∃ a c, e = .returned (.slice a (ends lHan).length c) ∧ Ig w' a (ends lHan) ∧ Touch (fun _ => False) w w' := by
  go_enter Tryd.func44, Tryd.ntmps44
  go_wp2
  go_ret
  exact ⟨_, _, rfl, ig_alloc w (ends lHan) 3, (Touch.refl _ w).alloc _⟩

def lDeseret : List R2 := [(66560, 66639)]
set_option maxRecDepth 100000 in
theorem ranges_Deseret (w : World) : Calls Tryd.prog 44 #[.string ⟨#[68, 101, 115, 101, 114, 101, 116]⟩] w fun e w' => ∃ a c, e = .returned (.slice a (ends lDeseret).length c) ∧ Ig w' a (ends lDeseret) ∧ Touch (fun _ => False) w w' := by
  go_enter Tryd.func44, Tryd.ntmps44
  go_wp2
  go_ret
  exact ⟨_, _, rfl, ig_alloc w (ends lDeseret) 3, (Touch.refl _ w).alloc _⟩

set_option maxRecDepth 100000 in
theorem ranges_space (w : World) : Calls Tryd.prog 44 #[.string ⟨#[115, 112, 97, 99, 101]⟩] w fun e w' => ∃ a c, e = .returned (.slice a (ends lBl).length c) ∧ Ig w' a (ends lBl) ∧ Touch (fun _ => False) w w' := by
  go_enter Tryd.func44, Tryd.ntmps44
  go_wp2
  go_ret
  exact ⟨_, _, rfl, ig_alloc w (ends lBl) 3, (Touch.refl _ w).alloc _⟩

/-- What In answers at a name. -/
def InSays (s : ByteArray) (l : List R2) (neg : Bool) : Prop := ∀ (r : Int) (w : World), Calls Tryd.prog 23 #[.string s, .int .i64 r] w fun e w' => e = .returned (.bool (decide (0 ≤ r ∧ r ≤ 1114111) && (if neg then !hasB r l else hasB r l))) ∧ Touch (fun _ => False) w w'
theorem out_cases (r : Int) : (0 ≤ r ∧ r ≤ 1114111 ∧ decide (0 ≤ r ∧ r ≤ 1114111) = true) ∨ (r < 0 ∧ decide (0 ≤ r ∧ r ≤ 1114111) = false) ∨ (0 ≤ r ∧ 1114111 < r ∧ decide (0 ≤ r ∧ r ≤ 1114111) = false) := by
  rcases Int.lt_or_le r 0 with h | h
  · exact .inr (.inl ⟨h, decide_eq_false (by omega)⟩)
  · rcases Int.lt_or_le 1114111 r with k | k
    · exact .inr (.inr ⟨h, k, decide_eq_false (by omega)⟩)
    · exact .inl ⟨h, k, decide_eq_true ⟨h, k⟩⟩

set_option maxRecDepth 100000 in
set_option maxHeartbeats 4000000 in
theorem in_Lu : InSays ⟨#[76, 117]⟩ lLu false := by
  intro r w
  go_enter Tryd.func23, Tryd.ntmps23
  rcases out_cases r with ⟨h0, h1, hd⟩ | ⟨h0, hd⟩ | ⟨h0, h1, hd⟩
  · rw [hd]
    clear hd
    go_wp2_with fail
    refine (ranges_Lu w).mono ?_
    rintro e w1 ⟨a, c, rfl, ig, t1⟩
    have T1 := hid t1
    have K := hid (in43 a c lLu r w1 ig (by decide))
    clear ig t1
    go_wp2_with fail
    refine K.out.mono ?_
    rintro e w2 ⟨rfl, rfl⟩
    go_wp2
    go_ret
    exact ⟨by simp, T1.out⟩
  · rw [hd]
    clear hd
    go_wp2
    go_ret
    exact ⟨rfl, Touch.refl _ _⟩
  · rw [hd]
    clear hd
    go_wp2
    go_ret
    exact ⟨rfl, Touch.refl _ _⟩

set_option maxRecDepth 100000 in
set_option maxHeartbeats 4000000 in
theorem in_Ll : InSays ⟨#[76, 108]⟩ lLl false := by
  intro r w
  go_enter Tryd.func23, Tryd.ntmps23
  rcases out_cases r with ⟨h0, h1, hd⟩ | ⟨h0, hd⟩ | ⟨h0, h1, hd⟩
  · rw [hd]
    clear hd
    go_wp2_with fail
    refine (ranges_Ll w).mono ?_
    rintro e w1 ⟨a, c, rfl, ig, t1⟩
    have T1 := hid t1
    have K := hid (in43 a c lLl r w1 ig (by decide))
    clear ig t1
    go_wp2_with fail
    refine K.out.mono ?_
    rintro e w2 ⟨rfl, rfl⟩
    go_wp2
    go_ret
    exact ⟨by simp, T1.out⟩
  · rw [hd]
    clear hd
    go_wp2
    go_ret
    exact ⟨rfl, Touch.refl _ _⟩
  · rw [hd]
    clear hd
    go_wp2
    go_ret
    exact ⟨rfl, Touch.refl _ _⟩

set_option maxRecDepth 100000 in
set_option maxHeartbeats 4000000 in
theorem in_Lo : InSays ⟨#[76, 111]⟩ lLo false := by
  intro r w
  go_enter Tryd.func23, Tryd.ntmps23
  rcases out_cases r with ⟨h0, h1, hd⟩ | ⟨h0, hd⟩ | ⟨h0, h1, hd⟩
  · rw [hd]
    clear hd
    go_wp2_with fail
    refine (ranges_Lo w).mono ?_
    rintro e w1 ⟨a, c, rfl, ig, t1⟩
    have T1 := hid t1
    have K := hid (in43 a c lLo r w1 ig (by decide))
    clear ig t1
    go_wp2_with fail
    refine K.out.mono ?_
    rintro e w2 ⟨rfl, rfl⟩
    go_wp2
    go_ret
    exact ⟨by simp, T1.out⟩
  · rw [hd]
    clear hd
    go_wp2
    go_ret
    exact ⟨rfl, Touch.refl _ _⟩
  · rw [hd]
    clear hd
    go_wp2
    go_ret
    exact ⟨rfl, Touch.refl _ _⟩

set_option maxRecDepth 100000 in
set_option maxHeartbeats 4000000 in
theorem in_Nd : InSays ⟨#[78, 100]⟩ lNd false := by
  intro r w
  go_enter Tryd.func23, Tryd.ntmps23
  rcases out_cases r with ⟨h0, h1, hd⟩ | ⟨h0, hd⟩ | ⟨h0, h1, hd⟩
  · rw [hd]
    clear hd
    go_wp2_with fail
    refine (ranges_Nd w).mono ?_
    rintro e w1 ⟨a, c, rfl, ig, t1⟩
    have T1 := hid t1
    have K := hid (in43 a c lNd r w1 ig (by decide))
    clear ig t1
    go_wp2_with fail
    refine K.out.mono ?_
    rintro e w2 ⟨rfl, rfl⟩
    go_wp2
    go_ret
    exact ⟨by simp, T1.out⟩
  · rw [hd]
    clear hd
    go_wp2
    go_ret
    exact ⟨rfl, Touch.refl _ _⟩
  · rw [hd]
    clear hd
    go_wp2
    go_ret
    exact ⟨rfl, Touch.refl _ _⟩

set_option maxRecDepth 100000 in
set_option maxHeartbeats 4000000 in
theorem in_Pc : InSays ⟨#[80, 99]⟩ lPc false := by
  intro r w
  go_enter Tryd.func23, Tryd.ntmps23
  rcases out_cases r with ⟨h0, h1, hd⟩ | ⟨h0, hd⟩ | ⟨h0, h1, hd⟩
  · rw [hd]
    clear hd
    go_wp2_with fail
    refine (ranges_Pc w).mono ?_
    rintro e w1 ⟨a, c, rfl, ig, t1⟩
    have T1 := hid t1
    have K := hid (in43 a c lPc r w1 ig (by decide))
    clear ig t1
    go_wp2_with fail
    refine K.out.mono ?_
    rintro e w2 ⟨rfl, rfl⟩
    go_wp2
    go_ret
    exact ⟨by simp, T1.out⟩
  · rw [hd]
    clear hd
    go_wp2
    go_ret
    exact ⟨rfl, Touch.refl _ _⟩
  · rw [hd]
    clear hd
    go_wp2
    go_ret
    exact ⟨rfl, Touch.refl _ _⟩

set_option maxRecDepth 100000 in
set_option maxHeartbeats 4000000 in
theorem in_Zs : InSays ⟨#[90, 115]⟩ lZs false := by
  intro r w
  go_enter Tryd.func23, Tryd.ntmps23
  rcases out_cases r with ⟨h0, h1, hd⟩ | ⟨h0, hd⟩ | ⟨h0, h1, hd⟩
  · rw [hd]
    clear hd
    go_wp2_with fail
    refine (ranges_Zs w).mono ?_
    rintro e w1 ⟨a, c, rfl, ig, t1⟩
    have T1 := hid t1
    have K := hid (in43 a c lZs r w1 ig (by decide))
    clear ig t1
    go_wp2_with fail
    refine K.out.mono ?_
    rintro e w2 ⟨rfl, rfl⟩
    go_wp2
    go_ret
    exact ⟨by simp, T1.out⟩
  · rw [hd]
    clear hd
    go_wp2
    go_ret
    exact ⟨rfl, Touch.refl _ _⟩
  · rw [hd]
    clear hd
    go_wp2
    go_ret
    exact ⟨rfl, Touch.refl _ _⟩

set_option maxRecDepth 100000 in
set_option maxHeartbeats 4000000 in
theorem in_P : InSays ⟨#[80]⟩ lP false := by
  intro r w
  go_enter Tryd.func23, Tryd.ntmps23
  rcases out_cases r with ⟨h0, h1, hd⟩ | ⟨h0, hd⟩ | ⟨h0, h1, hd⟩
  · rw [hd]
    clear hd
    go_wp2_with fail
    refine (ranges_P w).mono ?_
    rintro e w1 ⟨a, c, rfl, ig, t1⟩
    have T1 := hid t1
    have K := hid (in43 a c lP r w1 ig (by decide))
    clear ig t1
    go_wp2_with fail
    refine K.out.mono ?_
    rintro e w2 ⟨rfl, rfl⟩
    go_wp2
    go_ret
    exact ⟨by simp, T1.out⟩
  · rw [hd]
    clear hd
    go_wp2
    go_ret
    exact ⟨rfl, Touch.refl _ _⟩
  · rw [hd]
    clear hd
    go_wp2
    go_ret
    exact ⟨rfl, Touch.refl _ _⟩

set_option maxRecDepth 100000 in
set_option maxHeartbeats 4000000 in
theorem in_Latin : InSays ⟨#[76, 97, 116, 105, 110]⟩ lLatin false := by
  intro r w
  go_enter Tryd.func23, Tryd.ntmps23
  rcases out_cases r with ⟨h0, h1, hd⟩ | ⟨h0, hd⟩ | ⟨h0, h1, hd⟩
  · rw [hd]
    clear hd
    go_wp2_with fail
    refine (ranges_Latin w).mono ?_
    rintro e w1 ⟨a, c, rfl, ig, t1⟩
    have T1 := hid t1
    have K := hid (in43 a c lLatin r w1 ig (by decide))
    clear ig t1
    go_wp2_with fail
    refine K.out.mono ?_
    rintro e w2 ⟨rfl, rfl⟩
    go_wp2
    go_ret
    exact ⟨by simp, T1.out⟩
  · rw [hd]
    clear hd
    go_wp2
    go_ret
    exact ⟨rfl, Touch.refl _ _⟩
  · rw [hd]
    clear hd
    go_wp2
    go_ret
    exact ⟨rfl, Touch.refl _ _⟩

set_option maxRecDepth 100000 in
set_option maxHeartbeats 4000000 in
theorem in_Greek : InSays ⟨#[71, 114, 101, 101, 107]⟩ lGreek false := by
  intro r w
  go_enter Tryd.func23, Tryd.ntmps23
  rcases out_cases r with ⟨h0, h1, hd⟩ | ⟨h0, hd⟩ | ⟨h0, h1, hd⟩
  · rw [hd]
    clear hd
    go_wp2_with fail
    refine (ranges_Greek w).mono ?_
    rintro e w1 ⟨a, c, rfl, ig, t1⟩
    have T1 := hid t1
    have K := hid (in43 a c lGreek r w1 ig (by decide))
    clear ig t1
    go_wp2_with fail
    refine K.out.mono ?_
    rintro e w2 ⟨rfl, rfl⟩
    go_wp2
    go_ret
    exact ⟨by simp, T1.out⟩
  · rw [hd]
    clear hd
    go_wp2
    go_ret
    exact ⟨rfl, Touch.refl _ _⟩
  · rw [hd]
    clear hd
    go_wp2
    go_ret
    exact ⟨rfl, Touch.refl _ _⟩

set_option maxRecDepth 100000 in
set_option maxHeartbeats 4000000 in
theorem in_Cyrillic : InSays ⟨#[67, 121, 114, 105, 108, 108, 105, 99]⟩ lCyrillic false := by
  intro r w
  go_enter Tryd.func23, Tryd.ntmps23
  rcases out_cases r with ⟨h0, h1, hd⟩ | ⟨h0, hd⟩ | ⟨h0, h1, hd⟩
  · rw [hd]
    clear hd
    go_wp2_with fail
    refine (ranges_Cyrillic w).mono ?_
    rintro e w1 ⟨a, c, rfl, ig, t1⟩
    have T1 := hid t1
    have K := hid (in43 a c lCyrillic r w1 ig (by decide))
    clear ig t1
    go_wp2_with fail
    refine K.out.mono ?_
    rintro e w2 ⟨rfl, rfl⟩
    go_wp2
    go_ret
    exact ⟨by simp, T1.out⟩
  · rw [hd]
    clear hd
    go_wp2
    go_ret
    exact ⟨rfl, Touch.refl _ _⟩
  · rw [hd]
    clear hd
    go_wp2
    go_ret
    exact ⟨rfl, Touch.refl _ _⟩

set_option maxRecDepth 100000 in
set_option maxHeartbeats 4000000 in
theorem in_Hebrew : InSays ⟨#[72, 101, 98, 114, 101, 119]⟩ lHebrew false := by
  intro r w
  go_enter Tryd.func23, Tryd.ntmps23
  rcases out_cases r with ⟨h0, h1, hd⟩ | ⟨h0, hd⟩ | ⟨h0, h1, hd⟩
  · rw [hd]
    clear hd
    go_wp2_with fail
    refine (ranges_Hebrew w).mono ?_
    rintro e w1 ⟨a, c, rfl, ig, t1⟩
    have T1 := hid t1
    have K := hid (in43 a c lHebrew r w1 ig (by decide))
    clear ig t1
    go_wp2_with fail
    refine K.out.mono ?_
    rintro e w2 ⟨rfl, rfl⟩
    go_wp2
    go_ret
    exact ⟨by simp, T1.out⟩
  · rw [hd]
    clear hd
    go_wp2
    go_ret
    exact ⟨rfl, Touch.refl _ _⟩
  · rw [hd]
    clear hd
    go_wp2
    go_ret
    exact ⟨rfl, Touch.refl _ _⟩

set_option maxRecDepth 100000 in
set_option maxHeartbeats 4000000 in
theorem in_Hiragana : InSays ⟨#[72, 105, 114, 97, 103, 97, 110, 97]⟩ lHiragana false := by
  intro r w
  go_enter Tryd.func23, Tryd.ntmps23
  rcases out_cases r with ⟨h0, h1, hd⟩ | ⟨h0, hd⟩ | ⟨h0, h1, hd⟩
  · rw [hd]
    clear hd
    go_wp2_with fail
    refine (ranges_Hiragana w).mono ?_
    rintro e w1 ⟨a, c, rfl, ig, t1⟩
    have T1 := hid t1
    have K := hid (in43 a c lHiragana r w1 ig (by decide))
    clear ig t1
    go_wp2_with fail
    refine K.out.mono ?_
    rintro e w2 ⟨rfl, rfl⟩
    go_wp2
    go_ret
    exact ⟨by simp, T1.out⟩
  · rw [hd]
    clear hd
    go_wp2
    go_ret
    exact ⟨rfl, Touch.refl _ _⟩
  · rw [hd]
    clear hd
    go_wp2
    go_ret
    exact ⟨rfl, Touch.refl _ _⟩

set_option maxRecDepth 100000 in
set_option maxHeartbeats 4000000 in
theorem in_Katakana : InSays ⟨#[75, 97, 116, 97, 107, 97, 110, 97]⟩ lKatakana false := by
  intro r w
  go_enter Tryd.func23, Tryd.ntmps23
  rcases out_cases r with ⟨h0, h1, hd⟩ | ⟨h0, hd⟩ | ⟨h0, h1, hd⟩
  · rw [hd]
    clear hd
    go_wp2_with fail
    refine (ranges_Katakana w).mono ?_
    rintro e w1 ⟨a, c, rfl, ig, t1⟩
    have T1 := hid t1
    have K := hid (in43 a c lKatakana r w1 ig (by decide))
    clear ig t1
    go_wp2_with fail
    refine K.out.mono ?_
    rintro e w2 ⟨rfl, rfl⟩
    go_wp2
    go_ret
    exact ⟨by simp, T1.out⟩
  · rw [hd]
    clear hd
    go_wp2
    go_ret
    exact ⟨rfl, Touch.refl _ _⟩
  · rw [hd]
    clear hd
    go_wp2
    go_ret
    exact ⟨rfl, Touch.refl _ _⟩

set_option maxRecDepth 100000 in
set_option maxHeartbeats 4000000 in
theorem in_Han : InSays ⟨#[72, 97, 110]⟩ lHan false := by
  intro r w
  go_enter Tryd.func23, Tryd.ntmps23
  rcases out_cases r with ⟨h0, h1, hd⟩ | ⟨h0, hd⟩ | ⟨h0, h1, hd⟩
  · rw [hd]
    clear hd
    go_wp2_with fail
    refine (ranges_Han w).mono ?_
    rintro e w1 ⟨a, c, rfl, ig, t1⟩
    have T1 := hid t1
    have K := hid (in43 a c lHan r w1 ig (by decide))
    clear ig t1
    go_wp2_with fail
    refine K.out.mono ?_
    rintro e w2 ⟨rfl, rfl⟩
    go_wp2
    go_ret
    exact ⟨by simp, T1.out⟩
  · rw [hd]
    clear hd
    go_wp2
    go_ret
    exact ⟨rfl, Touch.refl _ _⟩
  · rw [hd]
    clear hd
    go_wp2
    go_ret
    exact ⟨rfl, Touch.refl _ _⟩

set_option maxRecDepth 100000 in
set_option maxHeartbeats 4000000 in
theorem in_Deseret : InSays ⟨#[68, 101, 115, 101, 114, 101, 116]⟩ lDeseret false := by
  intro r w
  go_enter Tryd.func23, Tryd.ntmps23
  rcases out_cases r with ⟨h0, h1, hd⟩ | ⟨h0, hd⟩ | ⟨h0, h1, hd⟩
  · rw [hd]
    clear hd
    go_wp2_with fail
    refine (ranges_Deseret w).mono ?_
    rintro e w1 ⟨a, c, rfl, ig, t1⟩
    have T1 := hid t1
    have K := hid (in43 a c lDeseret r w1 ig (by decide))
    clear ig t1
    go_wp2_with fail
    refine K.out.mono ?_
    rintro e w2 ⟨rfl, rfl⟩
    go_wp2
    go_ret
    exact ⟨by simp, T1.out⟩
  · rw [hd]
    clear hd
    go_wp2
    go_ret
    exact ⟨rfl, Touch.refl _ _⟩
  · rw [hd]
    clear hd
    go_wp2
    go_ret
    exact ⟨rfl, Touch.refl _ _⟩

set_option maxRecDepth 100000 in
set_option maxHeartbeats 4000000 in
theorem in_space : InSays ⟨#[115, 112, 97, 99, 101]⟩ lBl false := by
  intro r w
  go_enter Tryd.func23, Tryd.ntmps23
  rcases out_cases r with ⟨h0, h1, hd⟩ | ⟨h0, hd⟩ | ⟨h0, h1, hd⟩
  · rw [hd]
    clear hd
    go_wp2_with fail
    refine (ranges_space w).mono ?_
    rintro e w1 ⟨a, c, rfl, ig, t1⟩
    have T1 := hid t1
    have K := hid (in43 a c lBl r w1 ig (by decide))
    clear ig t1
    go_wp2_with fail
    refine K.out.mono ?_
    rintro e w2 ⟨rfl, rfl⟩
    go_wp2
    go_ret
    exact ⟨by simp, T1.out⟩
  · rw [hd]
    clear hd
    go_wp2
    go_ret
    exact ⟨rfl, Touch.refl _ _⟩
  · rw [hd]
    clear hd
    go_wp2
    go_ret
    exact ⟨rfl, Touch.refl _ _⟩

end Go.Proofs.YtnngemdpoemhgaaDoor
