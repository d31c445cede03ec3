/- A plain part's file of which one byte is turned, plain: it is read as none; condition: its data has at most 65535 bytes. -/
import Derived.Test.YtffjkceedbblgaaGreatDoorM21
import Derived.Test.YtffjkceedbblgaaGreatDoorM40
namespace Go.Proofs.YtffjkceedbblgaaGreatDoor
open Go.RowKit
open Go.Lib
open Gz

/-- A file of one part with any sum and any length behind it. -/
def gF (x : ByteArray) (c n : Nat) : ByteArray := headB ++ (packS x ++ (le4 c ++ le4 n))
theorem gF_one (d : ByteArray) : oneF d = gF d (sum d) d.size := rfl
theorem gF_size (x : ByteArray) (c n : Nat) : (gF x c n).size = 18 + (packS x).size := by
  unfold gF
  rw [ByteArray.size_append, ByteArray.size_append, ByteArray.size_append, le4_size, le4_size, show headB.size = 10 from rfl]
  omega
theorem g_pack (x : ByteArray) (c n : Nat) : Win (packS x) (gF x c n) 10 := by
  refine ⟨by rw [gF_size]; omega, fun i hi => ?_⟩
  unfold gF
  have h1 := byteN_right headB (packS x ++ (le4 c ++ le4 n)) i (by rw [ByteArray.size_append]; omega)
  rw [show headB.size = 10 from rfl] at h1
  rw [h1]
  exact byteN_left _ _ _ hi
theorem g_sum (x : ByteArray) (c n : Nat) : Win (le4 c) (gF x c n) (10 + (packS x).size) := by
  refine ⟨by rw [gF_size, le4_size]; omega, fun i hi => ?_⟩
  rw [le4_size] at hi
  unfold gF
  have h1 := byteN_right headB (packS x ++ (le4 c ++ le4 n)) ((packS x).size + i) (by rw [ByteArray.size_append, ByteArray.size_append, le4_size, le4_size]; omega)
  rw [show headB.size = 10 from rfl, ← Nat.add_assoc] at h1
  rw [h1, byteN_right _ _ _ (by rw [ByteArray.size_append, le4_size, le4_size]; omega)]
  exact byteN_left _ _ _ (by rw [le4_size]; exact hi)
theorem g_len (x : ByteArray) (c n : Nat) : Win (le4 n) (gF x c n) (10 + (packS x).size + 4) := by
  refine ⟨by rw [gF_size, le4_size]; omega, fun i hi => ?_⟩
  rw [le4_size] at hi
  unfold gF
  have h1 := byteN_right headB (packS x ++ (le4 c ++ le4 n)) ((packS x).size + (4 + i)) (by rw [ByteArray.size_append, ByteArray.size_append, le4_size, le4_size]; omega)
  rw [show headB.size = 10 from rfl, show 10 + ((packS x).size + (4 + i)) = 10 + (packS x).size + 4 + i by omega] at h1
  rw [h1, byteN_right _ _ _ (by rw [ByteArray.size_append, le4_size, le4_size]; omega)]
  have h2 := byteN_right (le4 c) (le4 n) i (by rw [le4_size]; exact hi)
  rw [le4_size] at h2
  exact h2
theorem g_head (x : ByteArray) (c n : Nat) (j : Nat) (h : j < 10) : Bt.byteN (gF x c n) j = Bt.byteN headB j := byteN_left _ _ _ h
theorem part_bad (x : ByteArray) (c n most : Nat) (hm : x.size ≤ most) (hc : c < 2 ^ 32) (hn : n < 2 ^ 32) (hbad : ¬ (c = sum x ∧ n = x.size)) : ∃ b : Bad, b.1 ≠ 0 ∧ partR (gF x c n) 0 most (.error b) := by
  have hs := gF_size x c n
  have hh : headAt (gF x c n) 0 = .ok 0 := by
    unfold headAt
    simp only [Nat.zero_add]
    rw [g_head x c n 0 (by omega), g_head x c n 1 (by omega), g_head x c n 2 (by omega), g_head x c n 3 (by omega), if_neg (by rw [show Bt.byteN headB 0 = 31 by decide, show Bt.byteN headB 1 = 139 by decide]; omega), if_neg (by omega), if_neg (by decide), if_neg (by decide)]
    rfl
  have ht : textsAt (gF x c n) (0 + 10) 0 = .ok (ByteArray.empty, ByteArray.empty, ByteArray.empty, 10) := rfl
  have hu : sumAt (gF x c n) 0 10 (0 / 2 % 2 == 1) = .ok 10 := rfl
  have hrest := (g_pack x c n).rest 0 (Nat.zero_le _)
  rw [Nat.add_zero, show (packS x).extract 0 (packS x).size = packS x from ByteArray.extract_zero_size] at hrest
  have e1 := (g_sum x c n).num 4 0 (by rw [le4_size]; omega)
  have e2 := (g_len x c n).num 4 0 (by rw [le4_size]; omega)
  rw [Nat.add_zero, le4_num _ hc] at e1
  rw [Nat.add_zero, le4_num _ hn] at e2
  have key : ∀ q : Except Bad (ByteArray × Nat), q = (if c ≠ sum x then .error (10, 10 + (packS x).size) else if n ≠ x.size then .error (11, 10 + (packS x).size + 4) else .ok (x, 10 + (packS x).size + 8)) → packR (gF x c n) 10 most q := by
    intro q hq
    refine ⟨x, 10 + (packS x).size, 0, 0, ?_, hm, fun _ => ⟨by omega, by omega⟩, ?_⟩
    · rw [hrest]
      exact says_more _ (says_plain x 10 most hm)
    · rw [if_neg (by decide), if_neg (by omega), e1, e2]
      exact hq
  by_cases h1 : c = sum x
  · have h2 : n ≠ x.size := fun e => hbad ⟨h1, e⟩
    refine ⟨(11, 10 + (packS x).size + 4), (show (11 : Nat) ≠ 0 by decide), ?_⟩
    unfold partR
    rw [hh]
    dsimp only
    rw [ht]
    dsimp only
    rw [hu]
    dsimp only
    exact ⟨_, key _ (by rw [if_neg (fun k => k h1), if_pos h2]), rfl⟩
  · refine ⟨(10, 10 + (packS x).size), (show (10 : Nat) ≠ 0 by decide), ?_⟩
    unfold partR
    rw [hh]
    dsimp only
    rw [ht]
    dsimp only
    rw [hu]
    dsimp only
    exact ⟨_, key _ (by rw [if_pos h1]), rfl⟩
theorem rd_turned {x : ByteArray} {c n most : Nat} (hm : x.size ≤ most) (hc : c < 2 ^ 32) (hn : n < 2 ^ 32) (hbad : ¬ (c = sum x ∧ n = x.size)) {r : Except Bad (List Part)} (k : Gz.Rd (gF x c n) 0 most 0 r) : ∃ b : Bad, b.1 ≠ 0 ∧ r = .error b := by
  obtain ⟨b, hb, hp⟩ := part_bad x c n most hm hc hn hbad
  exact ⟨b, hb, k.same (.bad 0 most 0 (.inl rfl) (by decide) _ hp)⟩

/-! ### The file's bytes -/
def headL (k : Nat) : List UInt8 := headB.data.toList ++ ([1] ++ hdr k).map UInt8.ofNat
theorem headL_len (k : Nat) : (headL k).length = 15 := by simp [headL, hdr, headB]
theorem pack_list (x : ByteArray) (h : x.size ≤ 65535) : (packS x).data.toList = ([1] ++ hdr x.size).map UInt8.ofNat ++ x.data.toList := by
  unfold packS
  rw [(plain_bytes x _ rfl).2 h]
  have e : (Bt.strNats x).map UInt8.ofNat = x.data.toList := congrArg (fun b : ByteArray => b.data.toList) (nats_back x)
  show ([1] ++ hdr x.size ++ Bt.strNats x).map UInt8.ofNat = _
  rw [List.map_append, e]
theorem gF_list (x : ByteArray) (c n : Nat) (h : x.size ≤ 65535) : (gF x c n).data.toList = headL x.size ++ (x.data.toList ++ (leB c 4 ++ leB n 4)) := by
  have e : (gF x c n).data.toList = headB.data.toList ++ ((packS x).data.toList ++ (leB c 4 ++ leB n 4)) := by
    unfold gF le4
    simp [ByteArray.data_append]
  rw [e, pack_list x h]
  unfold headL
  simp only [List.append_assoc]
theorem leB_four (n : Nat) : leB n 4 = [UInt8.ofNat n, UInt8.ofNat (n / 256), UInt8.ofNat (n / 65536), UInt8.ofNat (n / 16777216)] := by
  unfold leB
  simp [List.range, List.range.loop]
theorem leB_of (l : List UInt8) (h : l.length = 4) : ∃ c, c < 2 ^ 32 ∧ leB c 4 = l := by
  match l, h with
  | [b0, b1, b2, b3], _ =>
    have h0 := b0.toNat_lt
    have h1 := b1.toNat_lt
    have h2 := b2.toNat_lt
    have h3 := b3.toNat_lt
    refine ⟨b0.toNat + 256 * b1.toNat + 65536 * b2.toNat + 16777216 * b3.toNat, by omega, ?_⟩
    rw [leB_four]
    have f : ∀ (b : UInt8) (m : Nat), m % 256 = b.toNat → UInt8.ofNat m = b := fun b m e => UInt8.toNat_inj.1 (by rw [UInt8.toNat_ofNat']; exact e)
    rw [f b0 _ (by omega), f b1 _ (by omega), f b2 _ (by omega), f b3 _ (by omega)]
theorem bytes_ext {a b : ByteArray} (h : a.data.toList = b.data.toList) : a = b := by
  apply ByteArray.ext
  exact Array.toList_inj.1 h
theorem byteN_list (s : ByteArray) (j : Nat) : Bt.byteN s j = ((s.data.toList[j]?).getD 0).toNat := by
  unfold Bt.byteN
  rw [Array.getD_eq_getD_getElem?, Array.getElem?_toList]
theorem turned (d : ByteArray) (hd : d.size ≤ 65535) (j : Nat) (hj : j < d.size + 8) (v : UInt8) (hv : (oneF d).data.toList[15 + j]? ≠ some v) :
    ∃ x c n, x.size = d.size ∧ c < 2 ^ 32 ∧ n < 2 ^ 32 ∧ ¬ (c = sum x ∧ n = x.size) ∧ (⟨((oneF d).data.toList.set (15 + j) v).toArray⟩ : ByteArray) = gF x c n := by
  have hbl : d.data.toList.length = d.size := ba_len d
  have hcl : ∀ n, (leB n 4).length = 4 := fun n => by simp [leB]
  rw [gF_one, gF_list d _ _ hd] at hv ⊢
  rw [List.getElem?_append_right (by rw [headL_len]; omega), headL_len, Nat.add_sub_cancel_left] at hv
  have hset : (headL d.size ++ (d.data.toList ++ (leB (sum d) 4 ++ leB d.size 4))).set (15 + j) v = headL d.size ++ (d.data.toList ++ (leB (sum d) 4 ++ leB d.size 4)).set j v := by
    rw [List.set_append_right _ _ (by rw [headL_len]; omega), headL_len, Nat.add_sub_cancel_left]
  rw [hset]
  by_cases h1 : j < d.size
  · rw [List.getElem?_append_left (by omega)] at hv
    have hxs : (⟨(d.data.toList.set j v).toArray⟩ : ByteArray).size = d.size := by
      show (d.data.toList.set j v).toArray.size = _
      simp
    refine ⟨⟨(d.data.toList.set j v).toArray⟩, sum d, d.size, hxs, sum_lt d, by omega, fun hh => ?_, ?_⟩
    · refine sum_tells hxs j (by omega) ?_ ?_ hh.1.symm
      · rw [byteN_list, byteN_list]
        show (((d.data.toList.set j v)[j]?).getD 0).toNat ≠ _
        rw [List.getElem?_set_self (by omega), List.getElem?_eq_getElem (by omega)]
        intro e
        exact hv (by rw [List.getElem?_eq_getElem (by omega)]; exact congrArg some (UInt8.toNat_inj.1 e.symm))
      · intro i hi
        rw [byteN_list, byteN_list]
        show (((d.data.toList.set j v)[i]?).getD 0).toNat = _
        rw [List.getElem?_set_ne (fun e => hi e.symm)]
    · apply bytes_ext
      rw [gF_list _ _ _ (by omega), hxs, List.set_append_left _ _ (by omega)]
  · rw [List.getElem?_append_right (by omega), hbl] at hv
    rw [List.set_append_right _ _ (by omega), hbl]
    by_cases h2 : j - d.size < 4
    · rw [List.getElem?_append_left (by rw [hcl]; exact h2)] at hv
      obtain ⟨c, hc, hce⟩ := leB_of ((leB (sum d) 4).set (j - d.size) v) (by rw [List.length_set, hcl])
      refine ⟨d, c, d.size, rfl, hc, by omega, fun hh => ?_, ?_⟩
      · rw [hh.1] at hce
        apply hv
        rw [hce, List.getElem?_set_self (by rw [hcl]; exact h2)]
      · apply bytes_ext
        rw [gF_list _ _ _ hd, List.set_append_left _ _ (by rw [hcl]; exact h2), hce]
    · rw [List.getElem?_append_right (by rw [hcl]; omega), hcl] at hv
      obtain ⟨c, hc, hce⟩ := leB_of ((leB d.size 4).set (j - d.size - 4) v) (by rw [List.length_set, hcl])
      refine ⟨d, sum d, c, rfl, sum_lt d, hc, fun hh => ?_, ?_⟩
      · rw [hh.2] at hce
        apply hv
        rw [hce, List.getElem?_set_self (by rw [hcl]; omega)]
      · apply bytes_ext
        rw [gF_list _ _ _ hd, List.set_append_right _ _ (by rw [hcl]; omega), hcl, hce]
end Go.Proofs.YtffjkceedbblgaaGreatDoor
