/- Texts of this proof, one behind the other: what each says stands ahead of it. -/
import Derived.Test.YtlnpbcpajllkbaaGreatDoorM17
import Derived.Test.YtlnpbcpajllkbaaGreatDoorM22
import Derived.Test.YtlnpbcpajllkbaaGreatDoorM2
import Derived.Test.YtlnpbcpajllkbaaGreatDoorM16
/- A Builder's text; and Write of parts that have data alone; conditions: those told. -/
namespace Go.Proofs.YtlnpbcpajllkbaaGreatDoor
open Go.RowKit
open Go.Lib

theorem builderX : Builder.Extra Tryz.prog Tryz.lays169_ren :=
  { sizeBuilder := by kernel_rfl, liesBuilder := by kernel_rfl, t5 := Tryz.underlying5, a5 := Tryz.isAgg5, z5 := Tryz.sizeOf5, v5 := Tryz.zeroValue5, infoByte := by kernel_rfl, cellsByte := by kernel_rfl, sizeByte := by kernel_rfl, neB5 := by decide }
theorem string_any (B b : Nat) (l : List UInt8) (w : World) (h : Hd B b l w) (h0 : l ≠ []) :
    Calls Tryz.prog 17 #[.pointer (some ⟨b, 0, none⟩)] w fun e w' => e = .returned (.string ⟨l.toArray⟩) ∧ Below B w w' :=
  Any.Builder_String Tryz.lays169 builderX B b l w h h0

/-- A part that has data alone, in the file. -/
def partB (d : ByteArray) : List UInt8 := headB.data.toList ++ (strOf (laidTo (spanN d (chunks true 0 d.size)) (chunks true 0 d.size).length (chunks true 0 d.size).length)).data.toList ++ leB (Gz.sum d) 4 ++ leB d.size 4
def fileB (ds : List ByteArray) : List UInt8 := ds.flatMap partB
/-- Parts that have data alone, in memory. -/
def Pn (w : World) (b : Nat) (ds : List ByteArray) : Prop := b < w.heap.size ∧ ∀ i (h : i < ds.length), w.cell? ⟨b, i * 9, none⟩ = some (.string ⟨#[]⟩) ∧ w.cell? ⟨b, i * 9 + 1, none⟩ = some (.string ⟨#[]⟩) ∧ w.cell? ⟨b, i * 9 + 2, none⟩ = some (.string ⟨#[]⟩) ∧ w.cell? ⟨b, i * 9 + 3, none⟩ = some (.bool false) ∧ w.cell? ⟨b, i * 9 + 4, none⟩ = some (.bool false) ∧ w.cell? ⟨b, i * 9 + 5, none⟩ = some (.int .i64 0) ∧ w.cell? ⟨b, i * 9 + 6, none⟩ = some (.int .i64 0) ∧ w.cell? ⟨b, i * 9 + 7, none⟩ = some (.int .i64 0) ∧ w.cell? ⟨b, i * 9 + 8, none⟩ = some (.string ds[i])
theorem Pn.new {w w' : World} {b : Nat} {ds : List ByteArray} (h : Pn w b ds) (t : Touch (fun _ => False) w w') : Pn w' b ds := by
  refine ⟨Nat.lt_of_lt_of_le h.1 t.size, fun i hi => ?_⟩
  have k := h.2 i hi
  have e : ∀ j, w'.cell? ⟨b, j, none⟩ = w.cell? ⟨b, j, none⟩ := fun j => t.cell (p := ⟨b, j, none⟩) h.1 id
  simp only [e]
  exact k

theorem Hd.le {B b : Nat} {l : List UInt8} {w : World} (h : Hd B b l w) : B ≤ w.heap.size := by
  rcases h with ⟨h1, v, h2, _⟩ | ⟨h1, v, h2, _⟩
  · have := lt_of_block h2; omega
  · have := lt_of_block h2; omega
theorem Touch.down {w a b : World} {B : Nat} (h : Touch (fun _ => False) w a) (k : Below B a b) (hB : w.heap.size ≤ B) : Touch (fun _ => False) w b :=
  h.trans (touch_of_below k) (fun i hi e => by omega)
def packS (d : ByteArray) : ByteArray := strOf (laidTo (spanN d (chunks true 0 d.size)) (chunks true 0 d.size).length (chunks true 0 d.size).length)
theorem partB_is (d : ByteArray) : partB d = headB.data.toList ++ (packS d).data.toList ++ leB (Gz.sum d) 4 ++ leB d.size 4 := rfl
theorem fileB_take (ds : List ByteArray) (i : Nat) (h : i < ds.length) : fileB (ds.take (i + 1)) = fileB (ds.take i) ++ partB ds[i] := by
  rw [List.take_succ_eq_append_getElem h]
  unfold fileB
  rw [List.flatMap_append, List.flatMap_cons, List.flatMap_nil, List.append_nil]
theorem fileB_len : ∀ (ds : List ByteArray), (∀ d ∈ ds, (partB d).length ≤ 4194304) → (fileB ds).length ≤ ds.length * 4194304
  | [], _ => Nat.zero_le _
  | d :: ds, h => by
    have h1 := h d (by simp)
    have h2 := fileB_len ds (fun x hx => h x (by simp [hx]))
    unfold fileB at h2 ⊢
    rw [List.flatMap_cons, List.length_append, List.length_cons]
    omega

set_option maxHeartbeats 8000000 in
set_option maxRecDepth 100000 in
theorem write_plain (b c : Nat) (ds : List ByteArray) (w : World) (hp : Pn w b ds) (hq : Quart w) (h1 : 1 ≤ ds.length) (h2 : ds.length ≤ 1024) (hd : ∀ d ∈ ds, d.size ≤ 1048576 ∧ (partB d).length ≤ 4194304) :
    Calls Tryz.prog 8 #[.slice (some ⟨b, 0, none⟩) ds.length c, .slice none 0 0] w fun e w' => e = .returned (.tuple #[.string ⟨(fileB ds).toArray⟩, .int .i64 0]) ∧ Touch (fun _ => False) w w' := by
  have HP := hid hp
  have HQ := hid hq
  have HD := hid hd
  clear hp hq hd
  have n0 : ¬ (ds.length : Int) = 0 := by omega
  have n0B : ((ds.length : Int) == 0) = false := by simpa using n0
  have n1 : ¬ 1024 < (ds.length : Int) := by omega
  go_enter Tryz.func8, Tryz.ntmps8
  go_wp2_with fail
  go_loopg [22] ds.length (fun gk v wr => ∃ i : Nat, i + gk = ds.length ∧ v = .int .i64 (i : Nat) ∧ Hid (Touch (fun _ => False) w wr))
  case atStart => exact ⟨0, by omega, rfl, hid (Touch.refl _ _)⟩
  case round =>
    obtain ⟨i, hi, rfl, HT⟩ := hrel
    by_cases hlt : i < ds.length
    · have hltI : (i : Int) < (ds.length : Int) := by omega
      obtain ⟨p0, p1, p2, p3, p4, p5, p6, p7, p8⟩ := (HP.out.new HT.out).2 i hlt
      obtain ⟨d, hde⟩ : ∃ d, d = ds[i] := ⟨_, rfl⟩
      rw [← hde] at p8
      clear hde
      have K := hid (fun w => check_plain d w)
      unfold plainC at K
      go_upto_region 6 with fail
      have TS := hid (HT.out.alloc (.cells (plainC d) 28))
      have BS := hid (new_block wr (plainC d) 28)
      obtain ⟨wA, hwA⟩ : ∃ wA, wA = wr.alloc (.cells (plainC d) 28) := ⟨_, rfl⟩
      obtain ⟨q, hqq⟩ : ∃ q, q = wr.heap.size := ⟨_, rfl⟩
      change Code.wp _ _ _ _ (wr.alloc (.cells (plainC d) 28))
      rw [← hwA] at TS BS ⊢
      rw [← hqq] at BS ⊢
      clear hwA hqq p0 p1 p2 p3 p4 p5 p6 p7 p8
      have hp := plain_at BS.out
      unfold PlainAt at hp
      obtain ⟨p0, p1, p2, p3, p4, p5, p6, p7, p8⟩ := hp
      go_wp2_with fail
      refine (K.out wA).mono ?_
      rintro e w5 ⟨rfl, t5⟩
      have T5 := hid (TS.out.trans t5 (fun _ _ e => e))
      clear t5 K
      go_wp2
      go_roundg (gk - 1)
      case measure => omega
      case rel => exact ⟨i + 1, by omega, by go_num, T5⟩
    · obtain rfl : i = ds.length := by omega
      have HT0 := hid HT.out
      have TB := hid (HT.out.alloc (.cells #[.pointer none, .slice none 0 0] 44))
      have HB := hid (Hd.new wr)
      have HLe := hid HT.out.size
      go_wp2_with fail
      generalize (wr.alloc (.cells #[.pointer none, .slice none 0 0] 44)) = w1 at *
      obtain ⟨B0, hB0⟩ : ∃ B0, B0 = wr.heap.size := ⟨_, rfl⟩
      rw [← hB0] at HB HLe ⊢
      clear hB0 HT HT0
      go_loopg [34] ds.length (fun gk v wr => ∃ i : Nat, i + gk = ds.length ∧ v = .int .i64 (i : Nat) ∧ Hid (Hd B0 B0 (fileB (ds.take i)) wr) ∧ Hid (Touch (fun _ => False) w wr))
      case atStart => exact ⟨0, by omega, rfl, HB, TB⟩
      case round =>
        clear HB TB
        obtain ⟨i, hi, rfl, HB, HT⟩ := hrel
        by_cases hlt : i < ds.length
        · have hltI : (i : Int) < (ds.length : Int) := by omega
          obtain ⟨p0, p1, p2, p3, p4, p5, p6, p7, p8⟩ := (HP.out.new HT.out).2 i hlt
          have HTK := hid (fileB_take ds i hlt)
          have hsz := HD.out ds[i] (List.getElem_mem _)
          have hfl : (fileB (ds.take i)).length ≤ 4294967296 :=
            Nat.le_trans (fileB_len (ds.take i) (fun d hd => (HD.out d (List.mem_of_mem_take hd)).2)) (Nat.le_trans (Nat.mul_le_mul_right 4194304 (show (ds.take i).length ≤ 1024 by rw [List.length_take]; omega)) (by decide))
          obtain ⟨d, hde⟩ : ∃ d, d = ds[i] := ⟨_, rfl⟩
          rw [← hde] at p8 HTK hsz
          clear hde
          obtain ⟨l, hl⟩ : ∃ l, l = fileB (ds.take i) := ⟨_, rfl⟩
          rw [← hl] at HTK hfl HB
          have hds := hsz.1
          have hps := hsz.2
          rw [partB_is, List.length_append, List.length_append, List.length_append, ba_len, ba_len] at hps
          clear hsz
          have hlb : ∀ n, (leB n 4).length = 4 := fun n => by simp [leB]
          rw [hlb, hlb, show headB.size = 10 from rfl] at hps
          have KH := hid (fun w => head_plain d w)
          unfold plainC at KH
          have KP := hid (fun w => pack_plain d (by omega) _ rfl w)
          go_upto_region 14 with fail
          have TS := hid (HT.out.alloc (.cells (plainC d) 28))
          have BS := hid (new_block wr (plainC d) 28)
          have HS := hid (HB.out.still ((Touch.refl _ wr).alloc (.cells (plainC d) 28)))
          obtain ⟨wA, hwA⟩ : ∃ wA, wA = wr.alloc (.cells (plainC d) 28) := ⟨_, rfl⟩
          obtain ⟨q, hqq⟩ : ∃ q, q = wr.heap.size := ⟨_, rfl⟩
          change Code.wp _ _ _ _ (wr.alloc (.cells (plainC d) 28))
          rw [← hwA] at TS BS HS ⊢
          rw [← hqq] at BS ⊢
          clear hwA hqq p0 p1 p2 p3 p4 p5 p6 p7 p8 HB HT
          have hp := plain_at BS.out
          unfold PlainAt at hp
          obtain ⟨p0, p1, p2, p3, p4, p5, p6, p7, p8⟩ := hp
          go_wp2_with fail
          refine (KH.out wA).mono ?_
          rintro e wB ⟨rfl, tB⟩
          have HwB := hid (HS.out.still tB)
          have TwB := hid (TS.out.trans tB (fun _ _ e => e))
          have BwB := hid (Keep28.of tB _ _ BS.out)
          clear tB KH p0 p1 p2 p3 p4 p5 p6 p7 p8 HS TS BS
          go_wp2_with fail
          refine (writeString_any B0 B0 _ headB wB HwB.out (by rw [show headB.size = 10 from rfl]; omega) HwB.out.le).mono ?_
          rintro e wC ⟨rfl, hdwC, blwC, kpwC⟩
          have HwC := hid hdwC
          have TwC := hid (TwB.out.down blwC HLe.out)
          have BwC := hid (kpwC _ _ BwB.out)
          clear hdwC blwC kpwC
          clear HwB TwB BwB
          have c8 : wC.cell? ⟨q, 8, none⟩ = some (.string d) := (plain_at BwC.out).2.2.2.2.2.2.2.2
          go_wp2_with fail
          refine (KP.out wC).mono ?_
          rintro e wD ⟨rfl, tD⟩
          change Touch (fun _ => False) wC wD at tD
          have HwD := hid (HwC.out.still tD)
          have TwD := hid (TwC.out.trans tD (fun _ _ e => e))
          have BwD := hid (Keep28.of tD _ _ BwC.out)
          clear tD KP c8 HwC TwC BwC
          have PKS := hid (show packS d = strOf (laidTo (spanN d (chunks true 0 d.size)) (chunks true 0 d.size).length (chunks true 0 d.size).length) from rfl)
          rw [← PKS.out]
          have HSZ := hid hps
          go_wp2_with fail
          refine (writeString_any B0 B0 _ (packS d) wD HwD.out (by rw [List.length_append, ba_len, show headB.size = 10 from rfl]; have := HSZ.out; omega) HwD.out.le).mono ?_
          rintro e wE ⟨rfl, hdwE, blwE, kpwE⟩
          have HwE := hid hdwE
          have TwE := hid (TwD.out.down blwE HLe.out)
          have BwE := hid (kpwE _ _ BwD.out)
          clear hdwE blwE kpwE
          clear HwD TwD BwD
          have c8 : wE.cell? ⟨q, 8, none⟩ = some (.string d) := (plain_at BwE.out).2.2.2.2.2.2.2.2
          have KS := hid (sum_any d (by omega) wE (HQ.out.new TwE.out id))
          have hsl := Gz.sum_lt d
          obtain ⟨m, hm⟩ : ∃ m, m = Gz.sum d := ⟨_, rfl⟩
          rw [← hm] at KS hsl
          have HM := hid hm
          clear hm
          go_wp2_with fail
          refine KS.out.mono ?_
          rintro e wF ⟨rfl, rfl⟩
          clear KS
          go_wp2_with fail
          refine (bytesOf_int _ _ ⟨by omega, by omega⟩ (by decide) wE).mono ?_
          rintro e wF ⟨rfl, tF⟩
          have HwF := hid (HwE.out.still tF)
          have TwF := hid (TwE.out.trans tF (fun _ _ e => e))
          have BwF := hid (Keep28.of tF _ _ BwE.out)
          clear tF c8 HwE TwE BwE
          go_wp2_with fail
          have hl4 : ∀ n, (⟨(leB n 4).toArray⟩ : ByteArray).size = 4 := fun n => by show (leB n 4).toArray.size = 4; simp [leB]
          have HL4 := hid hl4
          clear hl4
          refine (writeString_any B0 B0 _ ⟨(leB m 4).toArray⟩ wF HwF.out (by rw [List.length_append, List.length_append, ba_len, ba_len, HL4.out, show headB.size = 10 from rfl]; have := HSZ.out; omega) HwF.out.le).mono ?_
          rintro e wG ⟨rfl, hdwG, blwG, kpwG⟩
          have HwG := hid hdwG
          have TwG := hid (TwF.out.down blwG HLe.out)
          have BwG := hid (kpwG _ _ BwF.out)
          clear hdwG blwG kpwG
          clear HwF TwF BwF
          have c8 : wG.cell? ⟨q, 8, none⟩ = some (.string d) := (plain_at BwG.out).2.2.2.2.2.2.2.2
          go_wp2_with fail
          refine (bytesOf_int _ _ ⟨by omega, by omega⟩ (by decide) wG).mono ?_
          rintro e wH ⟨rfl, tH⟩
          have HwH := hid (HwG.out.still tH)
          have TwH := hid (TwG.out.trans tH (fun _ _ e => e))
          have BwH := hid (Keep28.of tH _ _ BwG.out)
          clear tH c8 HwG TwG BwG
          go_wp2_with fail
          refine (writeString_any B0 B0 _ ⟨(leB d.size 4).toArray⟩ wH HwH.out (by rw [List.length_append, List.length_append, List.length_append, ba_len, ba_len, show (leB m 4).length = 4 by simp [leB], HL4.out, show headB.size = 10 from rfl]; have := HSZ.out; omega) HwH.out.le).mono ?_
          rintro e wI ⟨rfl, hdwI, blwI, kpwI⟩
          have HwI := hid hdwI
          have TwI := hid (TwH.out.down blwI HLe.out)
          have BwI := hid (kpwI _ _ BwH.out)
          clear hdwI blwI kpwI
          clear HwH TwH BwH
          go_wp2
          go_roundg (gk - 1)
          case measure => omega
          case rel =>
            refine ⟨i + 1, by omega, by go_num, hid ?_, TwI⟩
            rw [HTK.out, partB_is]
            have := HwI.out
            rw [HM.out] at this
            simpa [List.append_assoc] using this
        · obtain rfl : i = ds.length := by omega
          rw [List.take_length] at HB
          have HNE := hid (show fileB ds ≠ [] by
            cases ds with
            | nil => simp at h1
            | cons d ds =>
              unfold fileB
              rw [List.flatMap_cons, partB_is]
              intro e
              have := congrArg List.length e
              simp [headB] at this)
          go_wp2_with fail
          refine (string_any B0 B0 _ wr HB.out HNE.out).mono ?_
          rintro e wZ ⟨rfl, bZ⟩
          have TZ := hid (HT.out.down bZ HLe.out)
          clear bZ
          go_wp2
          refine bodyPost_ret (results_tmp2 rfl _ _ _) rfl ?_
          exact ⟨rfl, TZ.out⟩
end Go.Proofs.YtlnpbcpajllkbaaGreatDoor

/- What Pack without choices hands back, told plainly. -/
namespace Go.Proofs.YtlnpbcpajllkbaaGreatDoor
open Go.RowKit
open Go.Lib

theorem laid_len (T : Nat → List Nat) (m : Nat) : ∀ k, (laidTo T m k).length = 5 * k + (wantTo T k).length
  | 0 => rfl
  | k + 1 => by
    rw [laidTo_succ, wantTo_succ, List.length_append, List.length_append, length_blk, laid_len T m k]
    omega
theorem strNats_extract (d : ByteArray) (f t : Nat) (hft : f ≤ t) (ht : t ≤ d.size) : Bt.strNats (d.extract f t) = ((Bt.strNats d).drop f).take (t - f) := by
  refine List.ext_getElem ?_ (fun i h1 h2 => ?_)
  · simp [Bt.strNats, ByteArray.size_extract]
    omega
  · have hi : i < t - f := by simp [Bt.strNats, ByteArray.size_extract] at h1; omega
    rw [List.getElem_take, List.getElem_drop]
    simp only [Bt.strNats, List.getElem_map, List.getElem_range]
    unfold Bt.byteN
    have e1 : (d.extract f t).data = d.data.extract f t := by
      simp [ByteArray.extract, ByteArray.copySlice]
      rw [Nat.add_sub_cancel' hft]
    have hs : d.data.size = d.size := rfl
    rw [e1, Array.getD_eq_getD_getElem?, Array.getD_eq_getD_getElem?, Array.getElem?_extract_of_lt (by omega), Array.getElem?_eq_getElem (by omega)]
/-- The spans' bytes, one behind the other, are the data's. -/
theorem want_from (d : ByteArray) : ∀ (n f : Nat), d.size - f ≤ n → f ≤ d.size → (chunks true f d.size).flatMap (fun p => Bt.strNats (d.extract p.1 p.2)) = (Bt.strNats d).drop f
  | n, f, hn, hf => by
    have hl : (Bt.strNats d).length = d.size := by simp [Bt.strNats]
    by_cases hc : true = true ∧ 65535 < d.size - f
    · rw [chunks_more hc, List.flatMap_cons]
      match n, hn with
      | 0, hn => omega
      | n + 1, hn =>
        rw [want_from d n (f + 65535) (by omega) (by omega), strNats_extract d f (f + 65535) (by omega) (by omega), show f + 65535 - f = 65535 by omega]
        rw [← List.drop_drop, List.take_append_drop]
    · rw [chunks_one hc, List.flatMap_cons, List.flatMap_nil, List.append_nil, strNats_extract d f d.size hf (Nat.le_refl _), List.take_of_length_le (by rw [List.length_drop, hl]; exact Nat.le_refl _)]
theorem want_chunks (d : ByteArray) (ch : List (Nat × Nat)) (hch : chunks true 0 d.size = ch) : wantTo (spanN d ch) ch.length = Bt.strNats d := by
  have h := want_from d d.size 0 (by omega) (Nat.zero_le _)
  rw [hch, List.drop_zero] at h
  rw [← h]
  unfold wantTo spanN
  clear h hch
  rw [List.flatMap_def, List.flatMap_def]
  congr 1
  refine List.ext_getElem (by simp) (fun i h1 h2 => ?_)
  have hi : i < ch.length := by simpa using h2
  simp [List.getD_eq_getElem?_getD, List.getElem?_eq_getElem hi]
theorem chunks_num : ∀ (n f t : Nat), t - f ≤ n → f < t → (chunks true f t).length = (t - f + 65534) / 65535
  | n, f, t, hn, hft => by
    by_cases hc : true = true ∧ 65535 < t - f
    · rw [chunks_more hc, List.length_cons]
      match n, hn with
      | 0, hn => omega
      | n + 1, hn =>
        rw [chunks_num n (f + 65535) t (by omega) (by omega)]
        omega
    · have hlt : ¬ 65535 < t - f := fun k => hc ⟨rfl, k⟩
      rw [chunks_one hc]
      simp
      omega
theorem chunks_size (n : Nat) : (chunks true 0 n).length = max 1 ((n + 65534) / 65535) := by
  rcases Nat.eq_zero_or_pos n with rfl | h
  · rw [chunks_one (by omega)]
    rfl
  · rw [chunks_num n 0 n (by omega) h]
    omega
/-- What Pack without choices hands back, told plainly. -/
theorem plain_bytes (d : ByteArray) (ch : List (Nat × Nat)) (hch : chunks true 0 d.size = ch) : (strOf (laidTo (spanN d ch) ch.length ch.length)).size = d.size + 5 * max 1 ((d.size + 65534) / 65535) ∧ (d.size ≤ 65535 → laidTo (spanN d ch) ch.length ch.length = [1] ++ hdr d.size ++ Bt.strNats d) := by
  have hl : (Bt.strNats d).length = d.size := by simp [Bt.strNats]
  constructor
  · rw [size_strOf, laid_len, want_chunks d ch hch, hl, ← hch, chunks_size]
    omega
  · intro hs
    rw [chunks_one (by omega)] at hch
    subst hch
    rw [show laidTo (spanN d [(0, d.size)]) [(0, d.size)].length [(0, d.size)].length = blk 1 (spanN d [(0, d.size)] 0) by simp [laidTo, lastOf, List.range_succ]]
    have e : spanN d [(0, d.size)] 0 = Bt.strNats d := by
      unfold spanN
      rw [show [(0, d.size)].getD 0 (0, 0) = (0, d.size) from rfl, strNats_extract d 0 d.size (Nat.zero_le _) (Nat.le_refl _), List.drop_zero, Nat.sub_zero, List.take_of_length_le (by omega)]
    rw [e]
    unfold blk hdr
    rw [hl]
    rfl
end Go.Proofs.YtlnpbcpajllkbaaGreatDoor

/- toldBy of an unpacker: what a symbol tells; no condition beside those told. -/
namespace Go.Proofs.YtlnpbcpajllkbaaGreatDoor
open Go.RowKit Go.Lib

theorem toldBy_none (ub : Nat) (a : Option Addr) (cap : Nat) (w : World) :
    Calls Tryz.prog 106 #[.pointer (some ⟨ub, 0, none⟩), .int .i64 (16 : Nat), .slice a 0 cap] w fun e w' => e = .returned (.tuple #[.int .i64 0, .int .i64 0, .int .i64 5]) ∧ w' = w := by
  go_enter Tryz.func106, Tryz.ntmps106
  go_wp2
  go_ret3
  exact ⟨rfl, rfl⟩

/-- What is told, and what the reader has taken then. -/
def TdPost (s : ByteArray) (t i : Nat) (told : List Nat) (r : Nat) (w : World) (e : Ending) (w' : World) : Prop :=
  (t + Inf.moreBits i ≤ 8 * s.size ∧ e = .returned (.tuple #[.int .i64 (Inf.valT i told : Nat), .int .i64 (Inf.leastT i + Bt.rval s t (Inf.moreBits i) : Nat), .int .i64 0]) ∧ RStep w w' r s (t + Inf.moreBits i)) ∨
  (8 * s.size < t + Inf.moreBits i ∧ (∃ x y : Int, e = .returned (.tuple #[.int .i64 x, .int .i64 y, .int .i64 3])) ∧ RStep w w' r s t)

theorem rval_32 (s : ByteArray) (t n : Nat) (h : n ≤ 13) : Bt.rval s t n < 8192 := rval_13 s t n h

set_option maxRecDepth 100000 in
set_option maxHeartbeats 4000000 in
theorem toldBy_17 (ub r : Nat) (v : Value) (out : List Nat) (most : Int) (tl td : Option Addr) (s : ByteArray) (t : Nat) (told : List Nat) (a : Option Addr) (cap : Nat) (w : World) (h : Up w ub r v out most tl td) (hr : Rd w r s t) (hs : s.size ≤ 140737488351232) (ht : t ≤ 8 * s.size) :
    Calls Tryz.prog 106 #[.pointer (some ⟨ub, 0, none⟩), .int .i64 (17 : Nat), .slice a told.length cap] w (TdPost s t 17 told r w) := by
  obtain ⟨c0, _, _, _, _⟩ := up_cells h
  have hrv := rval_32 s t 3 (by decide)
  have HB := hid (show Inf.moreBits 17 = 3 from rfl)
  have HL := hid (show Inf.leastT 17 = 3 from rfl)
  have HV := hid (show Inf.valT 17 told = 0 from rfl)
  by_cases hfit : t + 3 ≤ 8 * s.size
  · have K := hid (take_yes r s t 3 w hr (by omega) (by decide) hfit)
    obtain ⟨x, hx⟩ : ∃ x, x = Bt.rval s t 3 := ⟨_, rfl⟩
    rw [← hx] at K hrv
    have HX := hid hx
    clear hx h hr
    go_enter Tryz.func106, Tryz.ntmps106
    go_wp2_with fail
    refine K.out.mono ?_
    rintro e w1 ⟨rfl, st⟩
    have ST := hid st
    clear st K
    go_wp2
    go_ret3
    refine .inl ⟨by rw [HB.out]; exact hfit, ?_, by rw [HB.out]; exact ST.out⟩
    rw [HB.out, HL.out, HV.out, ← HX.out, show ((3 + x : Nat) : Int) = 3 + (x : Int) by omega]
    rfl
  · have K := hid (take_end r s t 3 w hr (by omega) (by decide) ht (by omega))
    have HR := hid hr
    clear h hr
    go_enter Tryz.func106, Tryz.ntmps106
    go_wp2_with fail
    refine K.out.mono ?_
    rintro e w1 ⟨rfl, st⟩
    have ST := hid (st.rstep HR.out)
    clear st K
    go_wp2
    go_ret3
    exact .inr ⟨by rw [HB.out]; omega, ⟨_, _, rfl⟩, ST.out⟩

set_option maxRecDepth 100000 in
set_option maxHeartbeats 4000000 in
theorem toldBy_18 (ub r : Nat) (v : Value) (out : List Nat) (most : Int) (tl td : Option Addr) (s : ByteArray) (t : Nat) (told : List Nat) (a : Option Addr) (cap : Nat) (w : World) (h : Up w ub r v out most tl td) (hr : Rd w r s t) (hs : s.size ≤ 140737488351232) (ht : t ≤ 8 * s.size) :
    Calls Tryz.prog 106 #[.pointer (some ⟨ub, 0, none⟩), .int .i64 (18 : Nat), .slice a told.length cap] w (TdPost s t 18 told r w) := by
  obtain ⟨c0, _, _, _, _⟩ := up_cells h
  have hrv := rval_32 s t 7 (by decide)
  have HB := hid (show Inf.moreBits 18 = 7 from rfl)
  have HL := hid (show Inf.leastT 18 = 11 from rfl)
  have HV := hid (show Inf.valT 18 told = 0 from rfl)
  by_cases hfit : t + 7 ≤ 8 * s.size
  · have K := hid (take_yes r s t 7 w hr (by omega) (by decide) hfit)
    obtain ⟨x, hx⟩ : ∃ x, x = Bt.rval s t 7 := ⟨_, rfl⟩
    rw [← hx] at K hrv
    have HX := hid hx
    clear hx h hr
    go_enter Tryz.func106, Tryz.ntmps106
    go_wp2_with fail
    refine K.out.mono ?_
    rintro e w1 ⟨rfl, st⟩
    have ST := hid st
    clear st K
    go_wp2
    go_ret3
    refine .inl ⟨by rw [HB.out]; exact hfit, ?_, by rw [HB.out]; exact ST.out⟩
    rw [HB.out, HL.out, HV.out, ← HX.out, show ((11 + x : Nat) : Int) = 11 + (x : Int) by omega]
    rfl
  · have K := hid (take_end r s t 7 w hr (by omega) (by decide) ht (by omega))
    have HR := hid hr
    clear h hr
    go_enter Tryz.func106, Tryz.ntmps106
    go_wp2_with fail
    refine K.out.mono ?_
    rintro e w1 ⟨rfl, st⟩
    have ST := hid (st.rstep HR.out)
    clear st K
    go_wp2
    go_ret3
    exact .inr ⟨by rw [HB.out]; omega, ⟨_, _, rfl⟩, ST.out⟩

set_option maxRecDepth 100000 in
set_option maxHeartbeats 4000000 in
theorem toldBy_other (ub r : Nat) (v : Value) (out : List Nat) (most : Int) (tl td : Option Addr) (s : ByteArray) (t i : Nat) (told : List Nat) (a : Option Addr) (cap : Nat) (w : World) (h : Up w ub r v out most tl td) (hr : Rd w r s t) (hs : s.size ≤ 140737488351232) (ht : t ≤ 8 * s.size) (hi : i ≠ 16 ∧ i ≠ 17 ∧ i ≠ 18) :
    Calls Tryz.prog 106 #[.pointer (some ⟨ub, 0, none⟩), .int .i64 (i : Nat), .slice a told.length cap] w (TdPost s t i told r w) := by
  obtain ⟨c0, _, _, _, _⟩ := up_cells h
  have hrv := rval_32 s t 0 (by decide)
  have HB := hid (show Inf.moreBits i = 0 by unfold Inf.moreBits; rw [if_neg hi.1, if_neg hi.2.1, if_neg hi.2.2])
  have HL := hid (show Inf.leastT i = 1 by unfold Inf.leastT; rw [if_neg hi.1, if_neg hi.2.1, if_neg hi.2.2])
  have HV := hid (show Inf.valT i told = i by unfold Inf.valT; rw [if_neg hi.1, if_neg hi.2.1, if_neg hi.2.2])
  have e16 : ((i : Int) == 16) = false := by simp; omega
  have e17 : ((i : Int) == 17) = false := by simp; omega
  have e18 : ((i : Int) == 18) = false := by simp; omega
  clear hi
  by_cases hfit : t + 0 ≤ 8 * s.size
  · have K := hid (take_yes r s t 0 w hr (by omega) (by decide) hfit)
    obtain ⟨x, hx⟩ : ∃ x, x = Bt.rval s t 0 := ⟨_, rfl⟩
    rw [← hx] at K hrv
    have HX := hid hx
    clear hx h hr
    go_enter Tryz.func106, Tryz.ntmps106
    go_wp2_with fail
    refine K.out.mono ?_
    rintro e w1 ⟨rfl, st⟩
    have ST := hid st
    clear st K
    go_wp2
    go_ret3
    refine .inl ⟨by rw [HB.out]; exact hfit, ?_, by rw [HB.out]; exact ST.out⟩
    rw [HB.out, HL.out, HV.out, ← HX.out, show ((1 + x : Nat) : Int) = 1 + (x : Int) by omega]
    rfl
  · exact absurd ht (by omega)

set_option maxRecDepth 100000 in
set_option maxHeartbeats 4000000 in
theorem toldBy_16 (ub r : Nat) (v : Value) (out : List Nat) (most : Int) (tl td : Option Addr) (s : ByteArray) (t : Nat) (told : List Nat) (a : Option Addr) (cap : Nat) (w : World) (h : Up w ub r v out most tl td) (hr : Rd w r s t) (hs : s.size ≤ 140737488351232) (ht : t ≤ 8 * s.size) (hI : Ints w a told.length (fun j => ((told.getD j 0 : Nat) : Int))) (h0 : told.length ≠ 0) (hlen : told.length ≤ 100000) :
    Calls Tryz.prog 106 #[.pointer (some ⟨ub, 0, none⟩), .int .i64 (16 : Nat), .slice a told.length cap] w (TdPost s t 16 told r w) := by
  obtain ⟨c0, _, _, _, _⟩ := up_cells h
  have hrv := rval_32 s t 2 (by decide)
  have HB := hid (show Inf.moreBits 16 = 2 from rfl)
  have HL := hid (show Inf.leastT 16 = 3 from rfl)
  obtain ⟨y, hy⟩ : ∃ y, y = told.getD (told.length - 1) 0 := ⟨_, rfl⟩
  have HV := hid (show Inf.valT 16 told = y by rw [hy]; rfl)
  obtain ⟨b, o, ha, hb, hcell⟩ : ∃ b o, a = some ⟨b, o, none⟩ ∧ b < w.heap.size ∧ ∀ i, i < told.length → w.cell? ⟨b, o + i, none⟩ = some (.int .i64 ((told.getD i 0 : Nat) : Int)) := by
    rcases hI with h | h
    · exact absurd h h0
    · exact h
  subst ha
  have hlast := hcell (told.length - 1) (by omega)
  rw [← hy] at hlast
  obtain ⟨m, hm⟩ : ∃ m, told.length = m + 1 := ⟨told.length - 1, by omega⟩
  rw [hm, show m + 1 - 1 = m by omega] at hlast
  rw [hm]
  have hne : (((m + 1 : Nat) : Int) == 0) = false := by simp; omega
  clear hcell hI h0 hy
  by_cases hfit : t + 2 ≤ 8 * s.size
  · have K := hid (take_yes r s t 2 w hr (by omega) (by decide) hfit)
    obtain ⟨x, hx⟩ : ∃ x, x = Bt.rval s t 2 := ⟨_, rfl⟩
    rw [← hx] at K hrv
    have HX := hid hx
    clear hx h hr
    go_enter Tryz.func106, Tryz.ntmps106
    go_wp2_with fail
    refine K.out.mono ?_
    rintro e w1 ⟨rfl, st⟩
    have ST := hid st
    clear st K
    go_wp2
    go_ret3
    refine .inl ⟨by rw [HB.out]; exact hfit, ?_, by rw [HB.out]; exact ST.out⟩
    rw [HB.out, HL.out, HV.out, ← HX.out, show ((3 + x : Nat) : Int) = 3 + (x : Int) by omega]
    rfl
  · have K := hid (take_end r s t 2 w hr (by omega) (by decide) ht (by omega))
    have HR := hid hr
    clear h hr
    go_enter Tryz.func106, Tryz.ntmps106
    go_wp2_with fail
    refine K.out.mono ?_
    rintro e w1 ⟨rfl, st⟩
    have ST := hid (st.rstep HR.out)
    clear st K
    go_wp2
    go_ret3
    exact .inr ⟨by rw [HB.out]; omega, ⟨_, _, rfl⟩, ST.out⟩

theorem toldBy_any (ub r : Nat) (v : Value) (out : List Nat) (most : Int) (tl td : Option Addr) (s : ByteArray) (t i : Nat) (told : List Nat) (a : Option Addr) (cap : Nat) (w : World) (h : Up w ub r v out most tl td) (hr : Rd w r s t) (hs : s.size ≤ 140737488351232) (ht : t ≤ 8 * s.size)
    (hI : Ints w a told.length (fun j => ((told.getD j 0 : Nat) : Int))) (h0 : ¬ (i = 16 ∧ told.length = 0)) (hlen : told.length ≤ 100000) :
    Calls Tryz.prog 106 #[.pointer (some ⟨ub, 0, none⟩), .int .i64 (i : Nat), .slice a told.length cap] w (TdPost s t i told r w) := by
  by_cases h16 : i = 16
  · subst h16
    exact toldBy_16 ub r v out most tl td s t told a cap w h hr hs ht hI (fun e => h0 ⟨rfl, e⟩) hlen
  by_cases h17 : i = 17
  · subst h17
    exact toldBy_17 ub r v out most tl td s t told a cap w h hr hs ht
  by_cases h18 : i = 18
  · subst h18
    exact toldBy_18 ub r v out most tl td s t told a cap w h hr hs ht
  exact toldBy_other ub r v out most tl td s t i told a cap w h hr hs ht ⟨h16, h17, h18⟩
end Go.Proofs.YtlnpbcpajllkbaaGreatDoor
