/- Texts of this proof, one behind the other: what each says stands ahead of it. -/
import Derived.Test.YtlnpbcpajllkbaaGreatDoorM23
import Derived.Test.YtlnpbcpajllkbaaGreatDoorM31
import Derived.Test.YtlnpbcpajllkbaaGreatDoorM30
import Derived.Test.YtlnpbcpajllkbaaGreatDoorM2
import Derived.Test.YtlnpbcpajllkbaaGreatDoorM11
import Derived.Shelf.Strings.Prefix
import Derived.Laws.Externs
/- What Read tells of a plain part, plain: stored blocks are unpacked; no condition beside those told. -/
namespace Go.Proofs.YtlnpbcpajllkbaaGreatDoor
open Go.RowKit
open Go.Lib

theorem st_yes {s : ByteArray} {t n most : Nat} {out : List Nat} (h4 : (t + 10) / 8 + 4 + n ≤ s.size) (hn : Bt.byteN s ((t + 10) / 8) + 256 * Bt.byteN s ((t + 10) / 8 + 1) = n) (hn' : Bt.byteN s ((t + 10) / 8 + 2) + 256 * Bt.byteN s ((t + 10) / 8 + 3) = 65535 - n) (hm : out.length + n ≤ most) :
    Inf.st s most (t + 3) out = (0, 8 * ((t + 10) / 8 + 4 + n), out ++ (List.range n).map fun i => Bt.byteN s ((t + 10) / 8 + 4 + i)) := by
  unfold Inf.st
  dsimp only
  rw [show t + 3 + 7 = t + 10 by omega, hn, hn', if_neg (by omega), if_neg (by omega), if_neg (fun k => k rfl), if_neg (by omega), if_neg (by omega)]
theorem stream_un {s : ByteArray} {t tend : Nat} {bytes : List Nat} (h : Stream s t bytes tend) : ∀ (out : List Nat) (most : Nat), out.length + bytes.length ≤ most → Inf.Un s most t out 0 tend (out ++ bytes) := by
  induction h with
  | last t n h1 hb hk h4 hn hn' =>
    intro out most hm
    refine .last t out h1 (by omega) _ _ ?_
    rw [hk]
    exact .stored _ _ _ _ _ (st_yes h4 hn hn' (by simpa using hm))
  | more t n rest tend h1 hb hk h4 hn hn' hr ih =>
    intro out most hm
    rw [List.length_append, List.length_map, List.length_range] at hm
    refine .more t out h1 hb (8 * ((t + 10) / 8 + 4 + n)) (out ++ (List.range n).map fun i => Bt.byteN s ((t + 10) / 8 + 4 + i)) ?_ _ _ _ ?_
    · rw [hk]
      exact .stored _ _ _ _ _ (st_yes h4 hn hn' (by omega))
    · rw [← List.append_assoc]
      exact ih _ most (by rw [List.length_append, List.length_map, List.length_range]; omega)
/-- What is stored and too long for the bound. -/
theorem packS_size (d : ByteArray) : (packS d).size = d.size + 5 * max 1 ((d.size + 65534) / 65535) := (plain_bytes d _ rfl).1
theorem partB_len (d : ByteArray) (h : d.size ≤ 1048576) : (partB d).length ≤ 4194304 := by
  have := packS_size d
  rw [partB_is, List.length_append, List.length_append, List.length_append, ba_len, ba_len, show (leB (Gz.sum d) 4).length = 4 by simp [leB], show (leB d.size 4).length = 4 by simp [leB], show headB.size = 10 from rfl]
  omega
theorem nats_back (d : ByteArray) : strOf (Bt.strNats d) = d := by
  apply ByteArray.ext
  apply Array.ext
  · simp only [strOf, List.size_toArray, List.length_map, Bt.strNats, List.length_range]
    rfl
  · intro i h1 h2
    simp only [strOf, Bt.strNats, List.getElem_toArray, List.getElem_map, List.getElem_range]
    unfold Bt.byteN
    rw [Array.getD_eq_getD_getElem?, Array.getElem?_eq_getElem h2, Option.getD_some]
    exact UInt8.ofNat_toNat
theorem small_span (d : ByteArray) : Small (spanN d (chunks true 0 d.size)) (chunks true 0 d.size).length := by
  intro j hj
  have hm : (chunks true 0 d.size).getD j (0, 0) ∈ chunks true 0 d.size := by
    rw [List.getD_eq_getElem?_getD, List.getElem?_eq_getElem hj, Option.getD_some]
    exact List.getElem_mem _
  have hc := chunks_in d.size 0 d.size (by omega) (Nat.zero_le _) rfl _ hm
  unfold spanN
  constructor
  · simp only [Bt.strNats, List.length_map, List.length_range, ByteArray.size_extract]
    omega
  · intro x hx
    simp only [Bt.strNats, List.mem_map] at hx
    obtain ⟨i, _, rfl⟩ := hx
    exact Bt.byteN_lt _ _
theorem chunks_pos (n : Nat) : 0 < (chunks true 0 n).length := by
  rw [chunks_size]
  omega
/-- What Pack without choices hands back is unpacked to what it was. -/
theorem says_plain (d : ByteArray) (f most : Nat) (hm : d.size ≤ most) : Says (packS d) f most d (f + (packS d).size) 0 0 := by
  have hs := stream_all _ _ (small_span d) (chunks_pos d.size)
  rw [want_chunks d _ rfl] at hs
  have hl : (laidTo (spanN d (chunks true 0 d.size)) (chunks true 0 d.size).length (chunks true 0 d.size).length).length = (packS d).size := (size_strOf _).symm
  rw [hl] at hs
  have hn : (Bt.strNats d).length = d.size := by simp [Bt.strNats]
  have hu := stream_un hs [] most (by rw [hn, List.length_nil]; omega)
  rw [List.nil_append] at hu
  exact ⟨0, _, _, hu, Nat.le_refl _, .inl ⟨rfl, (nats_back d).symm, by omega, rfl, rfl⟩⟩
end Go.Proofs.YtlnpbcpajllkbaaGreatDoor

/- A plain part's file is read as this part, plain; condition: its data has less than 2^32 bytes. -/
namespace Go.Proofs.YtlnpbcpajllkbaaGreatDoor
open Go.RowKit
open Go.Lib
open Gz

/-- Four bytes of a number. -/
def le4 (n : Nat) : ByteArray := ⟨(leB n 4).toArray⟩
theorem le4_size (n : Nat) : (le4 n).size = 4 := by show (leB n 4).toArray.size = 4; simp [leB]
theorem le4_byte (n j : Nat) (h : j < 4) : Bt.byteN (le4 n) j = n / 2 ^ (8 * j) % 256 := by
  unfold Bt.byteN le4
  rw [Array.getD_eq_getD_getElem?]
  simp [leB, h]
theorem le4_num (n : Nat) (h : n < 2 ^ 32) : num (le4 n) 0 4 = n := by
  simp only [num, le4_byte n 0 (by omega), le4_byte n (0 + 1) (by omega), le4_byte n (0 + 1 + 1) (by omega), le4_byte n (0 + 1 + 1 + 1) (by omega)]
  simp only [Nat.zero_add, Nat.mul_zero, Nat.pow_zero, Nat.div_one, Nat.mul_one, show 8 * (1 + 1) = 16 from rfl, show 8 * (1 + 1 + 1) = 24 from rfl]
  omega
/-- The file of a plain part. -/
def oneF (d : ByteArray) : ByteArray := headB ++ (packS d ++ (le4 (sum d) ++ le4 d.size))
theorem oneF_is (d : ByteArray) : (⟨(partB d).toArray⟩ : ByteArray) = oneF d := by
  apply ByteArray.ext
  rw [partB_is]
  unfold oneF le4
  simp [ByteArray.data_append]
theorem oneF_size (d : ByteArray) : (oneF d).size = 18 + (packS d).size := by
  unfold oneF
  rw [ByteArray.size_append, ByteArray.size_append, ByteArray.size_append, le4_size, le4_size, show headB.size = 10 from rfl]
  omega
theorem one_pack (d : ByteArray) : Win (packS d) (oneF d) 10 := by
  refine ⟨by rw [oneF_size]; omega, fun i hi => ?_⟩
  unfold oneF
  have h1 := byteN_right headB (packS d ++ (le4 (sum d) ++ le4 d.size)) i (by rw [ByteArray.size_append]; omega)
  rw [show headB.size = 10 from rfl] at h1
  rw [h1]
  exact byteN_left _ _ _ hi
theorem one_sum (d : ByteArray) : Win (le4 (sum d)) (oneF d) (10 + (packS d).size) := by
  refine ⟨by rw [oneF_size, le4_size]; omega, fun i hi => ?_⟩
  rw [le4_size] at hi
  unfold oneF
  have h1 := byteN_right headB (packS d ++ (le4 (sum d) ++ le4 d.size)) ((packS d).size + i) (by rw [ByteArray.size_append, ByteArray.size_append, le4_size, le4_size]; omega)
  rw [show headB.size = 10 from rfl, ← Nat.add_assoc] at h1
  rw [h1, byteN_right _ _ _ (by rw [ByteArray.size_append, le4_size, le4_size]; omega)]
  exact byteN_left _ _ _ (by rw [le4_size]; exact hi)
theorem oneF_len (d : ByteArray) : Win (le4 d.size) (oneF d) (10 + (packS d).size + 4) := by
  refine ⟨by rw [oneF_size, le4_size]; omega, fun i hi => ?_⟩
  rw [le4_size] at hi
  unfold oneF
  have h1 := byteN_right headB (packS d ++ (le4 (sum d) ++ le4 d.size)) ((packS d).size + (4 + i)) (by rw [ByteArray.size_append, ByteArray.size_append, le4_size, le4_size]; omega)
  rw [show headB.size = 10 from rfl, show 10 + ((packS d).size + (4 + i)) = 10 + (packS d).size + 4 + i by omega] at h1
  rw [h1, byteN_right _ _ _ (by rw [ByteArray.size_append, le4_size, le4_size]; omega)]
  have h2 := byteN_right (le4 (sum d)) (le4 d.size) i (by rw [le4_size]; exact hi)
  rw [le4_size] at h2
  exact h2
theorem one_head (d : ByteArray) (j : Nat) (h : j < 10) : Bt.byteN (oneF d) j = Bt.byteN headB j := byteN_left _ _ _ h
def plainP (d : ByteArray) : Part := ⟨ByteArray.empty, ByteArray.empty, ByteArray.empty, false, false, 0, 0, 0, d⟩
theorem part_one (d : ByteArray) (most : Nat) (hm : d.size ≤ most) (hd : d.size < 2 ^ 32) : partR (oneF d) 0 most (.ok (plainP d, (oneF d).size)) := by
  have hs := oneF_size d
  have hh : headAt (oneF d) 0 = .ok 0 := by
    unfold headAt
    simp only [Nat.zero_add]
    rw [one_head d 0 (by omega), one_head d 1 (by omega), one_head d 2 (by omega), one_head d 3 (by omega), if_neg (by rw [show Bt.byteN headB 0 = 31 by decide, show Bt.byteN headB 1 = 139 by decide]; omega), if_neg (by omega), if_neg (by decide), if_neg (by decide)]
    rfl
  have ht : textsAt (oneF d) (0 + 10) 0 = .ok (ByteArray.empty, ByteArray.empty, ByteArray.empty, 10) := rfl
  have hu : sumAt (oneF d) 0 10 (0 / 2 % 2 == 1) = .ok 10 := rfl
  unfold partR
  rw [hh]
  dsimp only
  rw [ht]
  dsimp only
  rw [hu]
  dsimp only
  have hrest := (one_pack d).rest 0 (Nat.zero_le _)
  rw [Nat.add_zero, show (packS d).extract 0 (packS d).size = packS d from ByteArray.extract_zero_size] at hrest
  refine ⟨.ok (d, (oneF d).size), ⟨d, 10 + (packS d).size, 0, 0, ?_, hm, fun _ => ⟨by omega, by omega⟩, ?_⟩, ?_⟩
  · rw [hrest]
    exact says_more _ (says_plain d 10 most hm)
  · have e1 := (one_sum d).num 4 0 (by rw [le4_size]; omega)
    have e2 := (oneF_len d).num 4 0 (by rw [le4_size]; omega)
    rw [Nat.add_zero, le4_num _ (sum_lt d)] at e1
    rw [Nat.add_zero, le4_num _ hd] at e2
    rw [if_neg (by decide), if_neg (by omega), e1, e2, if_neg (fun k => k rfl), if_neg (fun k => k rfl), hs]
    congr 2
    omega
  · have n4 : num (oneF d) (0 + 4) 4 = 0 := by
      simp only [num, Nat.zero_add]
      rw [one_head d 4 (by omega), one_head d (4 + 1) (by omega), one_head d (4 + 1 + 1) (by omega), one_head d (4 + 1 + 1 + 1) (by omega)]
      decide
    dsimp only
    unfold partOf plainP
    rw [n4, one_head d (0 + 8) (by omega), one_head d (0 + 9) (by omega)]
    rfl
end Go.Proofs.YtlnpbcpajllkbaaGreatDoor

/- A reader of parts: number, fault, take, Is; conditions: those told. -/
namespace Go.Proofs.YtlnpbcpajllkbaaGreatDoor
open Go.RowKit

theorem num_snoc (s : ByteArray) : ∀ n p, Gz.num s p (n + 1) = Gz.num s p n + 256 ^ n * Bt.byteN s (p + n)
  | 0, p => by simp [Gz.num]
  | n + 1, p => by
    rw [Gz.num, num_snoc s n (p + 1), Gz.num, Nat.pow_succ, show p + 1 + n = p + (n + 1) by omega, Nat.mul_add, Nat.mul_comm (256 ^ n) 256, Nat.mul_assoc]
    omega
theorem or_low (a b k : Nat) (ha : a < 2 ^ k) (hb : 2 ^ k * b + a < 2 ^ 62) : bits .or .i64 (a : Int) ((2 ^ k * b : Nat) : Int) = ((a + 2 ^ k * b : Nat) : Int) := by
  rw [i64_or_nat _ _ (by omega) (by omega), Nat.or_comm, ← Nat.two_pow_add_eq_or_of_lt ha, Nat.add_comm]
set_option maxRecDepth 100000 in
set_option maxHeartbeats 4000000 in
/-- number, of at most four bytes. -/
theorem number_any (s : ByteArray) (hs : s.size ≤ 4) (w : World) : Calls Tryz.prog 51 #[.string s] w fun e w' => e = .returned (.int .i64 ((Gz.num s 0 s.size : Nat) : Int)) ∧ w = w' := by
  go_enter Tryz.func51, Tryz.ntmps51
  go_wp2_with fail
  go_loopg [3, 7] s.size (fun gk v3 v7 wq => ∃ i : Nat, i + gk = s.size ∧ v7 = .int .i64 (i : Nat) ∧ v3 = .int .i64 ((Gz.num s 0 i : Nat) : Int) ∧ w = wq)
  case atStart => exact ⟨0, by omega, rfl, rfl, rfl⟩
  case round =>
    obtain ⟨i, hi, rfl, rfl, rfl⟩ := hrel
    by_cases hlt : i < s.size
    · obtain ⟨gk, rfl⟩ : ∃ j, gk = j + 1 := ⟨gk - 1, by omega⟩
      have hltI : (i : Int) < (s.size : Int) := by omega
      have hbg := byte_get s i hlt
      have hb := Bt.byteN_lt s i
      have HN := hid (num_snoc s i 0)
      have hc := Gz.num_lt s i 0
      rw [Nat.zero_add] at HN
      generalize Gz.num s 0 i = c at *
      generalize Bt.byteN s i = b at *
      rcases (show i = 0 ∨ i = 1 ∨ i = 2 ∨ i = 3 by omega) with rfl | rfl | rfl | rfl
      · have ho := or_low c b 0 hc (by omega)
        rw [show ((2 ^ 0 * b : Nat) : Int) = (b : Int) by omega] at ho
        replace HN := hid (show Gz.num s 0 1 = c + 2 ^ 0 * b from HN.out)
        obtain ⟨n, hn⟩ : ∃ n, n = c + 2 ^ 0 * b := ⟨_, rfl⟩
        rw [← hn] at ho HN
        clear hn
        go_wp2
        go_roundg gk
        case measure => omega
        case rel => exact ⟨1, by omega, by go_num, by rw [HN.out], rfl⟩
      · have ho := or_low c b 8 hc (by omega)
        rw [show ((2 ^ 8 * b : Nat) : Int) = (b : Int) * 256 by omega] at ho
        replace HN := hid (show Gz.num s 0 2 = c + 2 ^ 8 * b from HN.out)
        obtain ⟨n, hn⟩ : ∃ n, n = c + 2 ^ 8 * b := ⟨_, rfl⟩
        rw [← hn] at ho HN
        clear hn
        go_wp2
        go_roundg gk
        case measure => omega
        case rel => exact ⟨2, by omega, by go_num, by rw [HN.out], rfl⟩
      · have ho := or_low c b 16 hc (by omega)
        rw [show ((2 ^ 16 * b : Nat) : Int) = (b : Int) * 65536 by omega] at ho
        replace HN := hid (show Gz.num s 0 3 = c + 2 ^ 16 * b from HN.out)
        obtain ⟨n, hn⟩ : ∃ n, n = c + 2 ^ 16 * b := ⟨_, rfl⟩
        rw [← hn] at ho HN
        clear hn
        go_wp2
        go_roundg gk
        case measure => omega
        case rel => exact ⟨3, by omega, by go_num, by rw [HN.out], rfl⟩
      · have ho := or_low c b 24 hc (by omega)
        rw [show ((2 ^ 24 * b : Nat) : Int) = (b : Int) * 16777216 by omega] at ho
        replace HN := hid (show Gz.num s 0 4 = c + 2 ^ 24 * b from HN.out)
        obtain ⟨n, hn⟩ : ∃ n, n = c + 2 ^ 24 * b := ⟨_, rfl⟩
        rw [← hn] at ho HN
        clear hn
        go_wp2
        go_roundg gk
        case measure => omega
        case rel => exact ⟨4, by omega, by go_num, by rw [HN.out], rfl⟩
    · have hltI : ¬ ((i : Int) < (s.size : Int)) := by omega
      obtain rfl : i = s.size := by omega
      go_wp2
      go_ret
      exact ⟨rfl, rfl⟩
end Go.Proofs.YtlnpbcpajllkbaaGreatDoor

/- A reader of parts: Is, fault, take, extra, name; conditions: those told. -/
namespace Go.Proofs.YtlnpbcpajllkbaaGreatDoor
open Go.RowKit

/-- A reader of parts of s that stands at t. -/
def Gr (w : World) (b : Nat) (s : ByteArray) (t : Nat) : Prop := w.heap[b]? = some (.cells #[.string s, .int .i64 (t : Nat)] 55 (0, 0))
theorem Gr.c0 {w : World} {b : Nat} {s : ByteArray} {t : Nat} (r : Gr w b s t) : w.cell? ⟨b, 0, none⟩ = some (.string s) := cell_two0 r
theorem Gr.c1 {w : World} {b : Nat} {s : ByteArray} {t : Nat} (r : Gr w b s t) : w.cell? ⟨b, 1, none⟩ = some (.int .i64 (t : Nat)) := cell_two1 r
theorem Gr.f1 {w : World} {b : Nat} {s : ByteArray} {t : Nat} (r : Gr w b s t) : w.frozen? ⟨b, 1, none⟩ = false := free_two r
theorem Gr.lt {w : World} {b : Nat} {s : ByteArray} {t : Nat} (r : Gr w b s t) : b < w.heap.size := lt_of_block r
theorem Gr.new {w w' : World} {b : Nat} {s : ByteArray} {t : Nat} {S : Nat → Prop} (r : Gr w b s t) (h : Touch S w w') (hn : ¬ S b) : Gr w' b s t := (h.block b r.lt hn).trans r
/-- It has gone on to t'; of what was there only its block may have turned. -/
structure GStep (w w' : World) (b : Nat) (s : ByteArray) (t : Nat) : Prop where
  gr : Gr w' b s t
  touch : Touch (fun k => k = b) w w'
theorem Gr.set {w w' : World} {b : Nat} {s : ByteArray} {t : Nat} (r : Gr w b s t) (h : Touch (fun _ => False) w w') (t' : Nat) : GStep w (w'.setCell ⟨b, 1, none⟩ (.int .i64 (t' : Nat))) b s t' :=
  ⟨two_set1 (r.new h id), (h.mono (S' := fun k => k = b) (fun _ _ e => e.elim)).setCell (p := ⟨b, 1, none⟩) (fun _ => rfl) _⟩
theorem results_tc {P : Program} {fn : Func} {t p : Tmp} {ty : TypeId} (h : fn.results = #[.tmp t, .cell p ty]) (tmps : Array Value) (w : World) (g : Nat) (et : TypeId) (cs : Array Value) (fr : Nat × Nat) (d : TypeDesc)
    (hp : tmps.getD p undef = .pointer (some ⟨g, 0, none⟩)) (hg : w.heap[g]? = some (.cells cs et fr))
    (hu : P.underlying ty = some d) (hd : (match d with | .struct _ | .array _ _ => true | _ => false) = true) (hi : (P.info? ty).map (·.size) = some cs.size) :
    (results fn tmps).run P w = .ok (.tuple #[tmps.getD t undef, .agg cs]) w := by
  have hp' : tmps[p]?.getD undef = .pointer (some ⟨g, 0, none⟩) := by simpa using hp
  simp [results, h, hp', asAddr, run_loadVar_row w g et ty cs fr d hg hu hd hi]
theorem results_cc {P : Program} {fn : Func} {p q : Tmp} {ty tz : TypeId} (h : fn.results = #[.cell p ty, .cell q tz]) (tmps : Array Value) (w : World) (g : Nat) (et : TypeId) (cs : Array Value) (fr : Nat × Nat) (d : TypeDesc)
    (g2 : Nat) (et2 : TypeId) (cs2 : Array Value) (fr2 : Nat × Nat) (d2 : TypeDesc)
    (hp : tmps.getD p undef = .pointer (some ⟨g, 0, none⟩)) (hg : w.heap[g]? = some (.cells cs et fr))
    (hu : P.underlying ty = some d) (hd : (match d with | .struct _ | .array _ _ => true | _ => false) = true) (hi : (P.info? ty).map (·.size) = some cs.size)
    (hp2 : tmps.getD q undef = .pointer (some ⟨g2, 0, none⟩)) (hg2 : w.heap[g2]? = some (.cells cs2 et2 fr2))
    (hu2 : P.underlying tz = some d2) (hd2 : (match d2 with | .struct _ | .array _ _ => true | _ => false) = true) (hi2 : (P.info? tz).map (·.size) = some cs2.size) :
    (results fn tmps).run P w = .ok (.tuple #[.agg cs, .agg cs2]) w := by
  have hp' : tmps[p]?.getD undef = .pointer (some ⟨g, 0, none⟩) := by simpa using hp
  have hp2' : tmps[q]?.getD undef = .pointer (some ⟨g2, 0, none⟩) := by simpa using hp2
  simp [results, h, hp', hp2', asAddr, run_loadVar_row w g et ty cs fr d hg hu hd hi, run_loadVar_row w g2 et2 tz cs2 fr2 d2 hg2 hu2 hd2 hi2]
theorem results_ctc {P : Program} {fn : Func} {p t q : Tmp} {ty tz : TypeId} (h : fn.results = #[.cell p ty, .tmp t, .cell q tz]) (tmps : Array Value) (w : World) (g : Nat) (et : TypeId) (cs : Array Value) (fr : Nat × Nat) (d : TypeDesc)
    (g2 : Nat) (et2 : TypeId) (cs2 : Array Value) (fr2 : Nat × Nat) (d2 : TypeDesc)
    (hp : tmps.getD p undef = .pointer (some ⟨g, 0, none⟩)) (hg : w.heap[g]? = some (.cells cs et fr))
    (hu : P.underlying ty = some d) (hd : (match d with | .struct _ | .array _ _ => true | _ => false) = true) (hi : (P.info? ty).map (·.size) = some cs.size)
    (hp2 : tmps.getD q undef = .pointer (some ⟨g2, 0, none⟩)) (hg2 : w.heap[g2]? = some (.cells cs2 et2 fr2))
    (hu2 : P.underlying tz = some d2) (hd2 : (match d2 with | .struct _ | .array _ _ => true | _ => false) = true) (hi2 : (P.info? tz).map (·.size) = some cs2.size) :
    (results fn tmps).run P w = .ok (.tuple #[.agg cs, tmps.getD t undef, .agg cs2]) w := by
  have hp' : tmps[p]?.getD undef = .pointer (some ⟨g, 0, none⟩) := by simpa using hp
  have hp2' : tmps[q]?.getD undef = .pointer (some ⟨g2, 0, none⟩) := by simpa using hp2
  simp [results, h, hp', hp2', asAddr, run_loadVar_row w g et ty cs fr d hg hu hd hi, run_loadVar_row w g2 et2 tz cs2 fr2 d2 hg2 hu2 hd2 hi2]
def isB (s : ByteArray) : Bool := decide (2 ≤ s.size) && (Bt.byteN s 0 == 31 && Bt.byteN s 1 == 139)
theorem two_bytes (s : ByteArray) (h : 2 ≤ s.size) : ((s.extract 0 2).toList == [31, 139]) = (Bt.byteN s 0 == 31 && Bt.byteN s 1 == 139) := by
  have h1 : (s.extract 0 2).data.toList = [s[0], s[1]] := by
    rw [ByteArray.data_extract, Array.toList_extract, List.extract_eq_take_drop]
    apply List.ext_getElem
    · simp
      omega
    · intro i hi1 hi2
      simp at hi2
      rcases (show i = 0 ∨ i = 1 by omega) with rfl | rfl <;> simp <;> rfl
  rw [Lib.toList_data, h1, ← byte_get s 0 (by omega), ← byte_get s 1 (by omega), Bool.eq_iff_iff]
  simp [← UInt8.toNat_inj]
set_option maxRecDepth 100000 in
theorem hasP_inner (s : ByteArray) (w : World) : Calls Tryz.prog 20 #[.string s, .string ⟨#[31, 139]⟩] w fun e w' => e = .returned (.bool (isB s)) ∧ w = w' := by
  by_cases h : 2 ≤ s.size
  · have hI : (2 : Int) ≤ (s.size : Int) := by omega
    have he : isB s = ((s.extract 0 2).toList == [31, 139]) := by unfold isB; rw [two_bytes s h]; simp [h]
    rw [he]
    go_enter Tryz.func20, Tryz.ntmps20
    go_wp2
    go_ret
    exact ⟨rfl, rfl⟩
  · have hI : ¬ ((2 : Int) ≤ (s.size : Int)) := by omega
    have he : isB s = false := by simp [isB, h]
    rw [he]
    go_enter Tryz.func20, Tryz.ntmps20
    go_wp2
    go_ret
    exact ⟨rfl, rfl⟩
theorem is_any (s : ByteArray) (w : World) : Calls Tryz.prog 7 #[.string s] w fun e w' => e = .returned (.bool (isB s)) ∧ w = w' := by
  have K : ∀ w, Calls Tryz.prog 11 #[.string s, .string ⟨#[31, 139]⟩] w fun e w' => e = .returned (.bool (isB s)) ∧ w = w' := by
    intro w
    have K := hid (hasP_inner s w)
    go_enter Tryz.func11, Tryz.ntmps11
    go_wp2_with fail
    refine K.out.mono ?_
    rintro e w1 ⟨rfl, rfl⟩
    clear K
    go_wp2
    go_ret
    exact ⟨rfl, rfl⟩
  have K2 := hid (K w)
  clear K
  go_enter Tryz.func7, Tryz.ntmps7
  go_wp2_with fail
  refine K2.out.mono ?_
  rintro e w1 ⟨rfl, rfl⟩
  clear K2
  go_wp2
  go_ret
  exact ⟨rfl, rfl⟩
theorem fault_any (b : Nat) (s : ByteArray) (t c : Nat) (w : World) (r : Gr w b s t) : Calls Tryz.prog 18 #[.pointer (some ⟨b, 0, none⟩), .int .i64 (c : Nat)] w fun e w' => e = .returned (.agg #[.int .i64 (c : Nat), .int .i64 (t : Nat)]) ∧ Touch (fun _ => False) w w' := by
  have c1 := (r.new ((Touch.refl (fun _ => False) w).alloc (.cells #[.int .i64 0, .int .i64 0] 31)) id).c1
  have FB := hid (two_new (w := w) (.int .i64 (c : Nat)) (.int .i64 (t : Nat)) 31)
  clear r
  go_enter Tryz.func18, Tryz.ntmps18
  go_wp2
  refine bodyPost_ret (results_c rfl _ _ w.heap.size 31 _ (0, 0) _ rfl FB.out Tryz.underlying31 rfl (by kernel_rfl)) rfl ?_
  exact ⟨rfl, (Touch.refl _ w).alloc _⟩
set_option maxHeartbeats 4000000 in
theorem gtake_no (b : Nat) (s : ByteArray) (t n : Nat) (w : World) (r : Gr w b s t) (_hs : s.size ≤ 140737488355328) (_hn : n ≤ 140737488355328) (ht : t ≤ s.size) (h : s.size < t + n) :
    Calls Tryz.prog 50 #[.pointer (some ⟨b, 0, none⟩), .int .i64 (n : Nat)] w fun e w' => e = .returned (.tuple #[.string ⟨#[]⟩, .bool false]) ∧ Touch (fun _ => False) w w' := by
  have c0 := r.c0
  have c1 := r.c1
  have hI : (s.size : Int) - (t : Int) < (n : Int) := by omega
  clear r
  go_enter Tryz.func50, Tryz.ntmps50
  go_wp2
  go_region
  all_goals go_wp2
  all_goals go_ret2
  all_goals exact ⟨rfl, (Touch.refl _ w).drew⟩
set_option maxHeartbeats 4000000 in
theorem gtake_yes (b : Nat) (s : ByteArray) (t n : Nat) (w : World) (r : Gr w b s t) (hs : s.size ≤ 140737488355328) (h : t + n ≤ s.size) :
    Calls Tryz.prog 50 #[.pointer (some ⟨b, 0, none⟩), .int .i64 (n : Nat)] w fun e w' => e = .returned (.tuple #[.string (s.extract t (t + n)), .bool true]) ∧ GStep w w' b s (t + n) := by
  have c0 := r.c0
  have c1 := r.c1
  have f1 := r.f1
  have R := hid r
  have hI : ¬ ((s.size : Int) - (t : Int) < (n : Int)) := by omega
  obtain ⟨m, hm⟩ : ∃ m, m = t + n := ⟨_, rfl⟩
  have hw : IntKind.i64.wrap ((t : Int) + (n : Int)) = (m : Int) := by rw [IntKind.wrap_i64]; omega
  have h1 : t ≤ m := by omega
  have h2 : m ≤ s.size := by omega
  rw [← hm]
  clear r hm h
  go_enter Tryz.func50, Tryz.ntmps50
  go_wp2
  go_region
  go_wp2
  go_region
  go_wp2
  go_ret2
  exact ⟨rfl, R.out.set (((Touch.refl _ w).drew).drew) m⟩
end Go.Proofs.YtlnpbcpajllkbaaGreatDoor
