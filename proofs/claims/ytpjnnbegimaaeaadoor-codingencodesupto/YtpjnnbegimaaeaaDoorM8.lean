/- Texts of this proof, one behind the other: what each says stands ahead of it. -/
import Derived.Test.YtpjnnbegimaaeaaDoorM7
import Derived.Test.YtpjnnbegimaaeaaDoorM2
/- The document's Scalar and Bytes; conditions: those told. -/
namespace Go.Proofs.YtpjnnbegimaaeaaDoor
open Go.RowKit
open Go.Lib

set_option maxRecDepth 100000 in
theorem rscalar_any (r : Int) (w : World) : Calls Tryd.prog 24 #[.int .i64 r] w fun e w' => e = .returned (.bool (scB r)) ∧ w = w' := by
  by_cases h0 : 0 ≤ r
  · by_cases h1 : r ≤ 1114111
    · by_cases h2 : r < 55296
      · have HS := hid ((scB_iff r).2 ⟨h0, h1, .inl h2⟩)
        go_enter Tryd.func24, Tryd.ntmps24
        go_wp2
        go_ret
        exact ⟨by rw [HS.out]; rfl, rfl⟩
      · by_cases h3 : 57343 < r
        · have HS := hid ((scB_iff r).2 ⟨h0, h1, .inr (by omega)⟩)
          go_enter Tryd.func24, Tryd.ntmps24
          go_wp2
          go_ret
          exact ⟨by rw [HS.out]; rfl, rfl⟩
        · have HS := hid (show scB r = false from Bool.eq_false_iff.2 (fun e => by rw [scB_iff] at e; omega))
          go_enter Tryd.func24, Tryd.ntmps24
          go_wp2
          go_ret
          exact ⟨by rw [HS.out]; rfl, rfl⟩
    · have HS := hid (show scB r = false from Bool.eq_false_iff.2 (fun e => by rw [scB_iff] at e; omega))
      go_enter Tryd.func24, Tryd.ntmps24
      go_wp2
      go_ret
      exact ⟨by rw [HS.out]; rfl, rfl⟩
  · have HS := hid (show scB r = false from Bool.eq_false_iff.2 (fun e => by rw [scB_iff] at e; omega))
    go_enter Tryd.func24, Tryd.ntmps24
    go_wp2
    go_ret
    exact ⟨by rw [HS.out]; rfl, rfl⟩

theorem conv_litI (w : World) (l : List Int) (n : Nat) (hn : n = l.length) (cs : Array Value) (hcs : cs = (l.map (Value.int .u8)).toArray) : (convert 52 9 (.slice (some ⟨w.heap.size, 0, none⟩) n n)).run Tryd.prog (w.alloc (.cells cs 5)) = .ok (.string (strOfNums l)) (w.alloc (.cells cs 5)) := by
  subst hn hcs
  refine run_convert_bytes_arg _ 52 5 Tryd.underlying52 Tryd.underlying5 w.heap.size 0 l.length l.length l rfl (fun i hi => ?_) 9 Tryd.underlying9
  unfold World.cell?
  rw [block_new]
  simp [hi]
theorem wrap8 (r : Int) (h : 0 ≤ r ∧ r ≤ 255) : IntKind.u8.wrap r = r := by
  have : IntKind.u8.wrap r = r % 256 := by
    simp [IntKind.wrap, IntKind.bits, IntKind.signed]
  omega

set_option maxRecDepth 100000 in
theorem bytes_latin (r : Int) (h : 0 ≤ r ∧ r ≤ 255) (w : World) : Calls Tryd.prog 25 #[.int .i64 r, .int .i64 4] w fun e w' => e = .returned (.string (strOfNums [r])) ∧ Touch (fun _ => False) w w' := by
  have hcv := conv_litI w [r] 1 rfl #[.int .u8 r] rfl
  have hw0 := wrap8 (r) (by omega)
  have hr : 0 ≤ r := by omega
  have HH := hid h
  clear h
  go_enter Tryd.func25, Tryd.ntmps25
  go_wp2
  go_ret
  exact ⟨rfl, (Touch.refl _ w).alloc _⟩
set_option maxRecDepth 100000 in
theorem bytes_one (r : Int) (h : 0 ≤ r ∧ r < 128) (w : World) : Calls Tryd.prog 25 #[.int .i64 r, .int .i64 1] w fun e w' => e = .returned (.string (strOfNums [r])) ∧ Touch (fun _ => False) w w' := by
  have hcv := conv_litI w [r] 1 rfl #[.int .u8 r] rfl
  have hw0 := wrap8 (r) (by omega)
  have hr : 0 ≤ r := by omega
  have l128 : r < 128 := by omega
  have HH := hid h
  clear h
  go_enter Tryd.func25, Tryd.ntmps25
  go_wp2
  go_ret
  exact ⟨rfl, (Touch.refl _ w).alloc _⟩
set_option maxRecDepth 100000 in
theorem bytes_two (r : Int) (h : 128 ≤ r ∧ r < 2048) (w : World) : Calls Tryd.prog 25 #[.int .i64 r, .int .i64 1] w fun e w' => e = .returned (.string (strOfNums [192 + r / 64, 128 + r % 64])) ∧ Touch (fun _ => False) w w' := by
  have hcv := conv_litI w [192 + r / 64, 128 + r % 64] 2 rfl #[.int .u8 (192 + r / 64), .int .u8 (128 + r % 64)] rfl
  have hw0 := wrap8 (192 + r / 64) (by omega)
  have hw1 := wrap8 (128 + r % 64) (by omega)
  have hr : 0 ≤ r := by omega
  have n128 : ¬ (r < 128) := by omega
  have l2048 : r < 2048 := by omega
  have HH := hid h
  clear h
  go_enter Tryd.func25, Tryd.ntmps25
  go_wp2
  go_ret
  exact ⟨rfl, (Touch.refl _ w).alloc _⟩
set_option maxRecDepth 100000 in
theorem bytes_three (r : Int) (h : 2048 ≤ r ∧ r < 65536) (w : World) : Calls Tryd.prog 25 #[.int .i64 r, .int .i64 1] w fun e w' => e = .returned (.string (strOfNums [224 + r / 4096, 128 + r / 64 % 64, 128 + r % 64])) ∧ Touch (fun _ => False) w w' := by
  have hcv := conv_litI w [224 + r / 4096, 128 + r / 64 % 64, 128 + r % 64] 3 rfl #[.int .u8 (224 + r / 4096), .int .u8 (128 + r / 64 % 64), .int .u8 (128 + r % 64)] rfl
  have hw0 := wrap8 (224 + r / 4096) (by omega)
  have hw1 := wrap8 (128 + r / 64 % 64) (by omega)
  have hw2 := wrap8 (128 + r % 64) (by omega)
  have hr : 0 ≤ r := by omega
  have n128 : ¬ (r < 128) := by omega
  have n2048 : ¬ (r < 2048) := by omega
  have l65536 : r < 65536 := by omega
  have HH := hid h
  clear h
  go_enter Tryd.func25, Tryd.ntmps25
  go_wp2
  go_ret
  exact ⟨rfl, (Touch.refl _ w).alloc _⟩
set_option maxRecDepth 100000 in
theorem bytes_four (r : Int) (h : 65536 ≤ r ∧ r ≤ 1114111) (w : World) : Calls Tryd.prog 25 #[.int .i64 r, .int .i64 1] w fun e w' => e = .returned (.string (strOfNums [240 + r / 262144, 128 + r / 4096 % 64, 128 + r / 64 % 64, 128 + r % 64])) ∧ Touch (fun _ => False) w w' := by
  have hcv := conv_litI w [240 + r / 262144, 128 + r / 4096 % 64, 128 + r / 64 % 64, 128 + r % 64] 4 rfl #[.int .u8 (240 + r / 262144), .int .u8 (128 + r / 4096 % 64), .int .u8 (128 + r / 64 % 64), .int .u8 (128 + r % 64)] rfl
  have hw0 := wrap8 (240 + r / 262144) (by omega)
  have hw1 := wrap8 (128 + r / 4096 % 64) (by omega)
  have hw2 := wrap8 (128 + r / 64 % 64) (by omega)
  have hw3 := wrap8 (128 + r % 64) (by omega)
  have hr : 0 ≤ r := by omega
  have n128 : ¬ (r < 128) := by omega
  have n2048 : ¬ (r < 2048) := by omega
  have n65536 : ¬ (r < 65536) := by omega
  have hm : r ≤ 1114111 := h.2
  have HH := hid h
  clear h
  go_enter Tryd.func25, Tryd.ntmps25
  go_wp2
  go_ret
  exact ⟨rfl, (Touch.refl _ w).alloc _⟩
set_option maxRecDepth 100000 in
theorem bytes_little (r : Int) (h : 0 ≤ r ∧ r ≤ 65535) (w : World) : Calls Tryd.prog 25 #[.int .i64 r, .int .i64 2] w fun e w' => e = .returned (.string (strOfNums [r % 256, r / 256])) ∧ Touch (fun _ => False) w w' := by
  have hcv := conv_litI w [r % 256, r / 256] 2 rfl #[.int .u8 (r % 256), .int .u8 (r / 256)] rfl
  have hw0 := wrap8 (r % 256) (by omega)
  have hw1 := wrap8 (r / 256) (by omega)
  have hr : 0 ≤ r := by omega
  have ng : ¬ (65535 < r) := by omega
  have HH := hid h
  clear h
  go_enter Tryd.func25, Tryd.ntmps25
  go_wp2
  go_ret
  exact ⟨rfl, (Touch.refl _ w).alloc _⟩
set_option maxRecDepth 100000 in
theorem bytes_big (r : Int) (h : 0 ≤ r ∧ r ≤ 65535) (w : World) : Calls Tryd.prog 25 #[.int .i64 r, .int .i64 3] w fun e w' => e = .returned (.string (strOfNums [r / 256, r % 256])) ∧ Touch (fun _ => False) w w' := by
  have hcv := conv_litI w [r / 256, r % 256] 2 rfl #[.int .u8 (r / 256), .int .u8 (r % 256)] rfl
  have hw0 := wrap8 (r / 256) (by omega)
  have hw1 := wrap8 (r % 256) (by omega)
  have hr : 0 ≤ r := by omega
  have ng : ¬ (65535 < r) := by omega
  have HH := hid h
  clear h
  go_enter Tryd.func25, Tryd.ntmps25
  go_wp2
  go_ret
  exact ⟨rfl, (Touch.refl _ w).alloc _⟩
theorem str_app (a b : List Int) : strOfNums a ++ strOfNums b = strOfNums (a ++ b) := by
  apply ByteArray.ext
  rw [ByteArray.data_append]
  unfold strOfNums
  simp
theorem bytes_unit (c f : Nat) (hcf : (c = 2 ∧ f = 34) ∨ (c = 3 ∧ f = 35)) (r : Int) (h : 0 ≤ r ∧ r ≤ 65535) (w : World) : Calls Tryd.prog 25 #[.int .i64 r, .int .i64 (c : Nat)] w fun e w' => e = .returned (.string (strOfNums (enU f r))) ∧ Touch (fun _ => False) w w' := by
  rcases hcf with ⟨rfl, rfl⟩ | ⟨rfl, rfl⟩
  · exact bytes_little r h w
  · exact bytes_big r h w
set_option maxRecDepth 100000 in
set_option maxHeartbeats 4000000 in
theorem bytes_pair (c f : Nat) (hcf : (c = 2 ∧ f = 34) ∨ (c = 3 ∧ f = 35)) (r : Int) (h : 65536 ≤ r ∧ r ≤ 1114111) (w : World) : Calls Tryd.prog 25 #[.int .i64 r, .int .i64 (c : Nat)] w fun e w' => e = .returned (.string (strOfNums (enU f (55296 + (r - 65536) / 1024) ++ enU f (56320 + (r - 65536) % 1024)))) ∧ Touch (fun _ => False) w w' := by
  have K1 := hid (fun w => bytes_unit c f hcf (55296 + (r - 65536) / 1024) (by omega) w)
  have K2 := hid (fun w => bytes_unit c f hcf (56320 + (r - 65536) % 1024) (by omega) w)
  have hc1 : ¬ ((c : Int) = 1) := by omega
  have hc4 : ¬ ((c : Int) = 4) := by omega
  have hg : 65535 < r := by omega
  have hr : 0 ≤ r - 65536 := by omega
  have hm : r ≤ 1114111 := h.2
  have HA := hid (str_app (enU f (55296 + (r - 65536) / 1024)) (enU f (56320 + (r - 65536) % 1024)))
  rw [← HA.out]
  have hs : ∀ x, (strOfNums (enU f x)).size = 2 := fun x => by
    unfold enU strOfNums
    split <;> rfl
  have hs1 := hs (55296 + (r - 65536) / 1024)
  have hs2 := hs (56320 + (r - 65536) % 1024)
  clear hs
  generalize strOfNums (enU f (55296 + (r - 65536) / 1024)) = s1 at *
  generalize strOfNums (enU f (56320 + (r - 65536) % 1024)) = s2 at *
  have HH := hid h
  clear h hcf
  go_enter Tryd.func25, Tryd.ntmps25
  go_wp2_with fail
  refine (K1.out w).mono ?_
  rintro e w1 ⟨rfl, t1⟩
  have T1 := hid t1
  clear t1
  go_wp2_with fail
  refine (K2.out w1).mono ?_
  rintro e w2 ⟨rfl, t2⟩
  have T2 := hid (T1.out.trans t2 (fun _ _ e => e))
  clear t2
  go_wp2
  go_ret
  exact ⟨rfl, T2.out⟩
theorem bytes_any (c : Nat) (hc : c = 1 ∨ c = 2 ∨ c = 3 ∨ c = 4) (r : Int) (h : okc c r = true) (w : World) : Calls Tryd.prog 25 #[.int .i64 r, .int .i64 (c : Nat)] w fun e w' => e = .returned (.string (strOfNums (enc c r))) ∧ Touch (fun _ => False) w w' := by
  have hi := okc_in h
  have h16 : ∀ d f : Nat, (d = 2 ∧ f = 34) ∨ (d = 3 ∧ f = 35) → 0 ≤ r ∧ r ≤ 1114111 → Calls Tryd.prog 25 #[.int .i64 r, .int .i64 (d : Nat)] w fun e w' => e = .returned (.string (strOfNums (en16 f r))) ∧ Touch (fun _ => False) w w' := fun d f hdf hr => by
    unfold en16
    by_cases h1 : r < 65536
    · rw [if_pos h1]
      exact bytes_unit d f hdf r (by omega) w
    · rw [if_neg h1]
      exact bytes_pair d f hdf r (by omega) w
  rcases hc with rfl | rfl | rfl | rfl
  · have hi' : 0 ≤ r ∧ r ≤ 1114111 := hi
    show Calls Tryd.prog 25 #[.int .i64 r, .int .i64 1] w fun e w' => e = .returned (.string (strOfNums (en8 r))) ∧ Touch (fun _ => False) w w'
    unfold en8
    by_cases h1 : r < 128
    · rw [if_pos h1]
      exact bytes_one r (by omega) w
    rw [if_neg h1]
    by_cases h2 : r < 2048
    · rw [if_pos h2]
      exact bytes_two r (by omega) w
    rw [if_neg h2]
    by_cases h3 : r < 65536
    · rw [if_pos h3]
      exact bytes_three r (by omega) w
    rw [if_neg h3]
    exact bytes_four r (by omega) w
  · exact h16 2 34 (by omega) hi
  · exact h16 3 35 (by omega) hi
  · exact bytes_latin r hi w
end Go.Proofs.YtpjnnbegimaaeaaDoor

/- What the document's utf8 tells is what the program's takeUTF8 tells, plain facts; no condition beside those told. -/
namespace Go.Proofs.YtpjnnbegimaaeaaDoor

def dkBad (m v : Nat) : Bool :=
  if m = 1 then false
  else if m = 2 then decide (64 * v + 63 < 2048) || (decide (55296 ≤ 64 * v) && decide (64 * v + 63 ≤ 57343))
  else decide (4096 * v + 4095 < 65536) || decide (1114111 < 4096 * v)
def dkGo (s : ByteArray) (a m : Nat) : Nat → Nat → Nat → Int × Nat
  | 0, _, v => ((v : Int), m + 1)
  | f + 1, k, v => if s.size ≤ a + k then (-1, k) else if byN s (a + k) < 128 ∨ 191 < byN s (a + k) then (-1, k) else if k = 1 ∧ dkBad m (64 * v + byN s (a + k) - 128) = true then (-1, 1) else dkGo s a m f (k + 1) (64 * v + byN s (a + k) - 128)
def dkLead (b : Nat) : Nat × Nat := if 194 ≤ b ∧ b ≤ 223 then (1, b - 192) else if 224 ≤ b ∧ b ≤ 239 then (2, b - 224) else if 240 ≤ b ∧ b ≤ 244 then (3, b - 240) else (0, 0)
def dk8 (s : ByteArray) (a : Nat) : Int × Nat := if byN s a < 128 then ((byN s a : Int), 1) else if (dkLead (byN s a)).1 = 0 then (-1, 1) else dkGo s a (dkLead (byN s a)).1 (dkLead (byN s a)).1 1 (dkLead (byN s a)).2

theorem by_extract (s : ByteArray) (a i : Nat) (h : a + i < s.size) : byN (s.extract a s.size) i = byN s (a + i) := by
  unfold byN
  have h1 : i < (s.extract a s.size).size := by rw [ByteArray.size_extract]; omega
  rw [dif_pos h1, dif_pos h, ByteArray.getElem_extract]
theorem size_rest (s : ByteArray) (a : Nat) : (s.extract a s.size).size = s.size - a := by rw [ByteArray.size_extract]; omega
/-- Behind the second byte both go alike. -/
theorem go_alike (s : ByteArray) (a m : Nat) (ha : a < s.size) : ∀ (f k v : Nat), 2 ≤ k → a + k ≤ s.size → dkGo s a m f k v = tkGo (s.extract a s.size) m f k v 128 191
  | 0, k, v, _, _ => by
    unfold dkGo tkGo
    rw [Nat.add_comm]
  | f + 1, k, v, hk, hak => by
    unfold dkGo tkGo
    rw [size_rest]
    by_cases h : s.size ≤ a + k
    · rw [if_pos h, if_pos (.inl (by omega))]
    · rw [if_neg h, by_extract s a k (by omega)]
      by_cases h2 : byN s (a + k) < 128 ∨ 191 < byN s (a + k)
      · rw [if_pos h2, if_pos (.inr h2)]
      · rw [if_neg h2, if_neg (by omega), if_neg (by omega)]
        have e : 64 * v + byN s (a + k) - 128 = 64 * v + byN s (a + k) % 64 := by
          have := by_lt s (a + k)
          omega
        rw [e]
        exact go_alike s a m ha f (k + 1) _ (by omega) (by omega)
/-- The second byte, by both. -/
theorem second_alike (s : ByteArray) (a m v lo hi : Nat) (hm : 1 ≤ m) (ha : a < s.size) (h : ∀ y, 128 ≤ y → y ≤ 191 → (dkBad m (64 * v + y - 128) = true ↔ (y < lo ∨ hi < y))) (hlo : 128 ≤ lo) (hhi : hi ≤ 191) :
    dkGo s a m m 1 v = tkGo (s.extract a s.size) m m 1 v lo hi := by
  obtain ⟨f, rfl⟩ : ∃ f, m = f + 1 := ⟨m - 1, by omega⟩
  unfold dkGo tkGo
  rw [size_rest]
  by_cases h1 : s.size ≤ a + 1
  · rw [if_pos h1, if_pos (.inl (by omega))]
  · rw [if_neg h1, by_extract s a 1 (by omega)]
    have hy := by_lt s (a + 1)
    by_cases h2 : byN s (a + 1) < 128 ∨ 191 < byN s (a + 1)
    · rw [if_pos h2, if_pos (by omega)]
    · rw [if_neg h2]
      have hb := h (byN s (a + 1)) (by omega) (by omega)
      by_cases h3 : byN s (a + 1) < lo ∨ hi < byN s (a + 1)
      · rw [if_pos ⟨rfl, hb.2 h3⟩, if_pos (.inr h3)]
      · rw [if_neg (fun q => h3 (hb.1 q.2)), if_neg (by omega)]
        have e : 64 * v + byN s (a + 1) - 128 = 64 * v + byN s (a + 1) % 64 := by omega
        rw [e]
        exact go_alike s a (f + 1) ha f 2 _ (Nat.le_refl _) (by omega)
theorem lead_low {b : Nat} (h : b < 128) : leadOf b = some ⟨0, 127, 0, 0, 0⟩ := by
  unfold leadOf leadsL
  rw [List.find?_cons_of_pos]
  unfold hasLead
  simp
  omega
theorem find_row (b : Nat) (pre post : List Lead) (l : Lead) (hp : ∀ x ∈ pre, hasLead b x = false) (h : hasLead b l = true) : (pre ++ l :: post).find? (hasLead b) = some l := by
  rw [List.find?_append, List.find?_eq_none.2 (fun x hx => by rw [hp x hx]; simp), List.find?_cons_of_pos h]
  rfl
theorem no_lead (b : Nat) (l : Lead) (h : b < l.first ∨ l.last < b) : hasLead b l = false := by
  unfold hasLead
  simp
  omega
theorem is_lead (b : Nat) (l : Lead) (h : l.first ≤ b ∧ b ≤ l.last) : hasLead b l = true := by
  unfold hasLead
  simp
  omega
theorem dk_tk (s : ByteArray) (a : Nat) (ha : a < s.size) : dk8 s a = tk8 (s.extract a s.size) := by
  have h0 : byN (s.extract a s.size) 0 = byN s a := by rw [by_extract s a 0 (by omega), Nat.add_zero]
  unfold dk8 tk8
  rw [h0]
  have hb := by_lt s a
  generalize byN s a = b at *
  by_cases h1 : b < 128
  · rw [if_pos h1, lead_low h1]
    show _ = tkGo _ 0 0 1 (b % 2 ^ 7) 0 0
    unfold tkGo
    rw [Nat.mod_eq_of_lt (by omega)]
  rw [if_neg h1]
  have row : ∀ (pre post : List Lead) (l : Lead), leadsL = pre ++ l :: post → (∀ x ∈ pre, b < x.first ∨ x.last < b) → l.first ≤ b ∧ b ≤ l.last → leadOf b = some l := fun pre post l e hp hl => by
    unfold leadOf
    rw [e]
    exact find_row b pre post l (fun x hx => no_lead b x (hp x hx)) (is_lead b l hl)
  have fin : ∀ (pre post : List Lead) (l : Lead), leadsL = pre ++ l :: post → (∀ x ∈ pre, b < x.first ∨ x.last < b) → l.first ≤ b ∧ b ≤ l.last → 1 ≤ l.more → 128 ≤ l.low → l.high ≤ 191 → (dkLead b).1 = l.more → (dkLead b).2 = b % 2 ^ (7 - l.more) → (∀ y, 128 ≤ y → y ≤ 191 → (dkBad l.more (64 * (dkLead b).2 + y - 128) = true ↔ (y < l.low ∨ l.high < y))) →
      (if (dkLead b).1 = 0 then ((-1 : Int), 1) else dkGo s a (dkLead b).1 (dkLead b).1 1 (dkLead b).2) = (match leadOf b with | none => (-1, 1) | some l => tkGo (s.extract a s.size) l.more l.more 1 (b % 2 ^ (7 - l.more)) l.low l.high) := fun pre post l e hp hl h1 h2 h3 h4 h5 h6 => by
    rw [row pre post l e hp hl, h4, if_neg (by omega)]
    show _ = tkGo (s.extract a s.size) l.more l.more 1 (b % 2 ^ (7 - l.more)) l.low l.high
    rw [← h5]
    exact second_alike s a l.more (dkLead b).2 l.low l.high h1 ha h6 h2 h3
  by_cases c1 : 194 ≤ b ∧ b ≤ 223
  · have hd : dkLead b = (1, b - 192) := by unfold dkLead; rw [if_pos (by omega)]
    refine fin [⟨0, 127, 0, 0, 0⟩] [⟨224, 224, 2, 160, 191⟩, ⟨225, 236, 2, 128, 191⟩, ⟨237, 237, 2, 128, 159⟩, ⟨238, 239, 2, 128, 191⟩, ⟨240, 240, 3, 144, 191⟩, ⟨241, 243, 3, 128, 191⟩, ⟨244, 244, 3, 128, 143⟩] ⟨194, 223, 1, 128, 191⟩ rfl (by simp; omega) c1 (by decide) (by decide) (by decide) (by rw [hd]) (by rw [hd]; show b - 192 = b % 64; omega) (fun y hy1 hy2 => ?_)
    rw [hd]
    show dkBad 1 (64 * (b - 192) + y - 128) = true ↔ (y < 128 ∨ 191 < y)
    simp [dkBad]
    omega
  by_cases c2 : 224 ≤ b ∧ b ≤ 224
  · have hd : dkLead b = (2, b - 224) := by unfold dkLead; rw [if_neg (by omega), if_pos (by omega)]
    refine fin [⟨0, 127, 0, 0, 0⟩, ⟨194, 223, 1, 128, 191⟩] [⟨225, 236, 2, 128, 191⟩, ⟨237, 237, 2, 128, 159⟩, ⟨238, 239, 2, 128, 191⟩, ⟨240, 240, 3, 144, 191⟩, ⟨241, 243, 3, 128, 191⟩, ⟨244, 244, 3, 128, 143⟩] ⟨224, 224, 2, 160, 191⟩ rfl (by simp; omega) c2 (by decide) (by decide) (by decide) (by rw [hd]) (by rw [hd]; show b - 224 = b % 32; omega) (fun y hy1 hy2 => ?_)
    rw [hd]
    show dkBad 2 (64 * (b - 224) + y - 128) = true ↔ (y < 160 ∨ 191 < y)
    simp [dkBad]
    omega
  by_cases c3 : 225 ≤ b ∧ b ≤ 236
  · have hd : dkLead b = (2, b - 224) := by unfold dkLead; rw [if_neg (by omega), if_pos (by omega)]
    refine fin [⟨0, 127, 0, 0, 0⟩, ⟨194, 223, 1, 128, 191⟩, ⟨224, 224, 2, 160, 191⟩] [⟨237, 237, 2, 128, 159⟩, ⟨238, 239, 2, 128, 191⟩, ⟨240, 240, 3, 144, 191⟩, ⟨241, 243, 3, 128, 191⟩, ⟨244, 244, 3, 128, 143⟩] ⟨225, 236, 2, 128, 191⟩ rfl (by simp; omega) c3 (by decide) (by decide) (by decide) (by rw [hd]) (by rw [hd]; show b - 224 = b % 32; omega) (fun y hy1 hy2 => ?_)
    rw [hd]
    show dkBad 2 (64 * (b - 224) + y - 128) = true ↔ (y < 128 ∨ 191 < y)
    simp [dkBad]
    omega
  by_cases c4 : 237 ≤ b ∧ b ≤ 237
  · have hd : dkLead b = (2, b - 224) := by unfold dkLead; rw [if_neg (by omega), if_pos (by omega)]
    refine fin [⟨0, 127, 0, 0, 0⟩, ⟨194, 223, 1, 128, 191⟩, ⟨224, 224, 2, 160, 191⟩, ⟨225, 236, 2, 128, 191⟩] [⟨238, 239, 2, 128, 191⟩, ⟨240, 240, 3, 144, 191⟩, ⟨241, 243, 3, 128, 191⟩, ⟨244, 244, 3, 128, 143⟩] ⟨237, 237, 2, 128, 159⟩ rfl (by simp; omega) c4 (by decide) (by decide) (by decide) (by rw [hd]) (by rw [hd]; show b - 224 = b % 32; omega) (fun y hy1 hy2 => ?_)
    rw [hd]
    show dkBad 2 (64 * (b - 224) + y - 128) = true ↔ (y < 128 ∨ 159 < y)
    simp [dkBad]
    omega
  by_cases c5 : 238 ≤ b ∧ b ≤ 239
  · have hd : dkLead b = (2, b - 224) := by unfold dkLead; rw [if_neg (by omega), if_pos (by omega)]
    refine fin [⟨0, 127, 0, 0, 0⟩, ⟨194, 223, 1, 128, 191⟩, ⟨224, 224, 2, 160, 191⟩, ⟨225, 236, 2, 128, 191⟩, ⟨237, 237, 2, 128, 159⟩] [⟨240, 240, 3, 144, 191⟩, ⟨241, 243, 3, 128, 191⟩, ⟨244, 244, 3, 128, 143⟩] ⟨238, 239, 2, 128, 191⟩ rfl (by simp; omega) c5 (by decide) (by decide) (by decide) (by rw [hd]) (by rw [hd]; show b - 224 = b % 32; omega) (fun y hy1 hy2 => ?_)
    rw [hd]
    show dkBad 2 (64 * (b - 224) + y - 128) = true ↔ (y < 128 ∨ 191 < y)
    simp [dkBad]
    omega
  by_cases c6 : 240 ≤ b ∧ b ≤ 240
  · have hd : dkLead b = (3, b - 240) := by unfold dkLead; rw [if_neg (by omega), if_neg (by omega), if_pos (by omega)]
    refine fin [⟨0, 127, 0, 0, 0⟩, ⟨194, 223, 1, 128, 191⟩, ⟨224, 224, 2, 160, 191⟩, ⟨225, 236, 2, 128, 191⟩, ⟨237, 237, 2, 128, 159⟩, ⟨238, 239, 2, 128, 191⟩] [⟨241, 243, 3, 128, 191⟩, ⟨244, 244, 3, 128, 143⟩] ⟨240, 240, 3, 144, 191⟩ rfl (by simp; omega) c6 (by decide) (by decide) (by decide) (by rw [hd]) (by rw [hd]; show b - 240 = b % 16; omega) (fun y hy1 hy2 => ?_)
    rw [hd]
    show dkBad 3 (64 * (b - 240) + y - 128) = true ↔ (y < 144 ∨ 191 < y)
    simp [dkBad]
    omega
  by_cases c7 : 241 ≤ b ∧ b ≤ 243
  · have hd : dkLead b = (3, b - 240) := by unfold dkLead; rw [if_neg (by omega), if_neg (by omega), if_pos (by omega)]
    refine fin [⟨0, 127, 0, 0, 0⟩, ⟨194, 223, 1, 128, 191⟩, ⟨224, 224, 2, 160, 191⟩, ⟨225, 236, 2, 128, 191⟩, ⟨237, 237, 2, 128, 159⟩, ⟨238, 239, 2, 128, 191⟩, ⟨240, 240, 3, 144, 191⟩] [⟨244, 244, 3, 128, 143⟩] ⟨241, 243, 3, 128, 191⟩ rfl (by simp; omega) c7 (by decide) (by decide) (by decide) (by rw [hd]) (by rw [hd]; show b - 240 = b % 16; omega) (fun y hy1 hy2 => ?_)
    rw [hd]
    show dkBad 3 (64 * (b - 240) + y - 128) = true ↔ (y < 128 ∨ 191 < y)
    simp [dkBad]
    omega
  by_cases c8 : 244 ≤ b ∧ b ≤ 244
  · have hd : dkLead b = (3, b - 240) := by unfold dkLead; rw [if_neg (by omega), if_neg (by omega), if_pos (by omega)]
    refine fin [⟨0, 127, 0, 0, 0⟩, ⟨194, 223, 1, 128, 191⟩, ⟨224, 224, 2, 160, 191⟩, ⟨225, 236, 2, 128, 191⟩, ⟨237, 237, 2, 128, 159⟩, ⟨238, 239, 2, 128, 191⟩, ⟨240, 240, 3, 144, 191⟩, ⟨241, 243, 3, 128, 191⟩] [] ⟨244, 244, 3, 128, 143⟩ rfl (by simp; omega) c8 (by decide) (by decide) (by decide) (by rw [hd]) (by rw [hd]; show b - 240 = b % 16; omega) (fun y hy1 hy2 => ?_)
    rw [hd]
    show dkBad 3 (64 * (b - 240) + y - 128) = true ↔ (y < 128 ∨ 143 < y)
    simp [dkBad]
    omega
  have hn : leadOf b = none := by
    unfold leadOf
    rw [List.find?_eq_none]
    intro x hx
    simp only [leadsL, List.mem_cons, List.not_mem_nil, or_false] at hx
    rw [no_lead b x (by rcases hx with rfl | rfl | rfl | rfl | rfl | rfl | rfl | rfl | rfl <;> dsimp only <;> omega)]
    simp
  rw [hn, show dkLead b = (0, 0) by unfold dkLead; rw [if_neg (by omega), if_neg (by omega), if_neg (by omega)]]
  rfl
end Go.Proofs.YtpjnnbegimaaeaaDoor
