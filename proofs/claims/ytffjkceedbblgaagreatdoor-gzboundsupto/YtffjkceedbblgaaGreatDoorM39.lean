/- Texts of this proof, one behind the other: what each says stands ahead of it. -/
import Derived.Shelf.Strings.Builder1
import Derived.Ground.NamesProg
import Derived.Test.YtffjkceedbblgaaGreatDoorChecked
import Derived.Test.YtffjkceedbblgaaGreatDoorM38
import Derived.Test.YtffjkceedbblgaaGreatDoorM20
import Derived.Test.YtffjkceedbblgaaGreatDoorM21
import Derived.Test.YtffjkceedbblgaaGreatDoorM29
import Derived.Test.YtffjkceedbblgaaGreatDoorM28
/-
  DERIVED: THE SHELF's CONTRACTS AT THIS DUMP, IN PLAIN WORDS (tools/lay-plain.mjs out of 'YtffjkceedbblgaaGreatDoorShq.lean', which tools/lay-shelf.mjs wrote): THE SAME DECLARATIONS UNDER THE SAME NAMES: 'import', 'namespace', 'open', 'def', 'theorem' AND NOTHING ELSE: no command of the shelf's: FOR A HAND-IN. Each laying: the table of numbers ('.._ren') and one theorem, a field a fact of the dump's own or the kernel's comparison; each contract: ONE APPLICATION.
-/
namespace Go.Proofs
open Go.Shelf
def Tryz.lays169_ren : Go.Shelf.Ren := ⟨fun | 169 => 17 | n => n, fun | 70 => 42 | 9 => 9 | 0 => 0 | 72 => 44 | 37 => 36 | 127 => 86 | 3 => 3 | 5 => 5 | n => n, fun | n => n⟩
theorem Tryz.lays169 : Go.Proofs.Lays.n169 Tryz.prog Tryz.lays169_ren := {
  mixed := by kernel_rfl
  f169 := Tryz.func17.trans (congrArg some (by kernel_rfl))
  t0 := Tryz.underlying0
  a0 := Tryz.isAgg0
  z0 := Tryz.sizeOf0
  v0 := Tryz.zeroValue0
  t3 := Tryz.underlying3
  a3 := Tryz.isAgg3
  z3 := Tryz.sizeOf3
  v3 := Tryz.zeroValue3
  t9 := Tryz.underlying9
  a9 := Tryz.isAgg9
  z9 := Tryz.sizeOf9
  v9 := Tryz.zeroValue9
  t37 := Tryz.underlying36
  a37 := Tryz.isAgg36
  z37 := Tryz.sizeOf36
  v37 := Tryz.zeroValue36
  t70 := Tryz.underlying42
  a70 := Tryz.isAgg42
  z70 := Tryz.sizeOf42
  v70 := Tryz.zeroValue42
  t72 := Tryz.underlying44
  a72 := Tryz.isAgg44
  z72 := Tryz.sizeOf44
  v72 := Tryz.zeroValue44
  t127 := Tryz.underlying86
  a127 := Tryz.isAgg86
  z127 := Tryz.sizeOf86
  v127 := Tryz.zeroValue86 }
end Go.Proofs

/- A Builder's text; and Write of parts that have data alone; conditions: those told. -/
namespace Go.Proofs.YtffjkceedbblgaaGreatDoor
open Go.RowKit
open Go.Lib

theorem builderX : Builder.Extra Tryz.prog Tryz.lays169_ren :=
  { sizeBuilder := by kernel_rfl, liesBuilder := by kernel_rfl, t5 := Tryz.underlying5, a5 := Tryz.isAgg5, z5 := Tryz.sizeOf5, v5 := Tryz.zeroValue5, infoByte := by kernel_rfl, cellsByte := by kernel_rfl, sizeByte := by kernel_rfl, neB5 := by decide }
theorem string_any (B b : Nat) (l : List UInt8) (w : World) (h : Hd B b l w) (h0 : l ≠ []) :
    Calls Tryz.prog 17 #[.pointer (some ⟨b, 0, none⟩)] w fun e w' => e = .returned (.string ⟨l.toArray⟩) ∧ Below B w w' :=
  Any.Builder_String Tryz.lays169 builderX B b l w h h0

/-- A part that has data alone, in the file. -/
def partB (d : ByteArray) : List UInt8 := headB.data.toList ++ (strOf (laidTo (spanN d (chunks true 0 d.size)) (chunks true 0 d.size).length (chunks true 0 d.size).length)).data.toList ++ leB (Gz.sum d) 4 ++ leB d.size 4
def fileB (ds : List ByteArray) : List UInt8 := ds.flatMap partB
/-- Parts that have data alone, in memory. -/
def Pn (w : World) (b : Nat) (ds : List ByteArray) : Prop := b < w.heap.size ∧ ∀ i (h : i < ds.length), w.cell? ⟨b, i * 9, none⟩ = some (.string ⟨#[]⟩) ∧ w.cell? ⟨b, i * 9 + 1, none⟩ = some (.string ⟨#[]⟩) ∧ w.cell? ⟨b, i * 9 + 2, none⟩ = some (.string ⟨#[]⟩) ∧ w.cell? ⟨b, i * 9 + 3, none⟩ = some (.bool false) ∧ w.cell? ⟨b, i * 9 + 4, none⟩ = some (.bool false) ∧ w.cell? ⟨b, i * 9 + 5, none⟩ = some (.int .i64 0) ∧ w.cell? ⟨b, i * 9 + 6, none⟩ = some (.int .i64 0) ∧ w.cell? ⟨b, i * 9 + 7, none⟩ = some (.int .i64 0) ∧ w.cell? ⟨b, i * 9 + 8, none⟩ = some (.string ds[i])
theorem Pn.new {w w' : World} {b : Nat} {ds : List ByteArray} (h : Pn w b ds) (t : Touch (fun _ => False) w w') : Pn w' b ds := by
  refine ⟨Nat.lt_of_lt_of_le h.1 t.size, fun i hi => ?_⟩
  have k := h.2 i hi
  have e : ∀ j, w'.cell? ⟨b, j, none⟩ = w.cell? ⟨b, j, none⟩ := fun j => t.cell (p := ⟨b, j, none⟩) h.1 id
  simp only [e]
  exact k

theorem Hd.le {B b : Nat} {l : List UInt8} {w : World} (h : Hd B b l w) : B ≤ w.heap.size := by
  rcases h with ⟨h1, v, h2, _⟩ | ⟨h1, v, h2, _⟩
  · have := lt_of_block h2; omega
  · have := lt_of_block h2; omega
theorem Touch.down {w a b : World} {B : Nat} (h : Touch (fun _ => False) w a) (k : Below B a b) (hB : w.heap.size ≤ B) : Touch (fun _ => False) w b :=
  h.trans (touch_of_below k) (fun i hi e => by omega)
def packS (d : ByteArray) : ByteArray := strOf (laidTo (spanN d (chunks true 0 d.size)) (chunks true 0 d.size).length (chunks true 0 d.size).length)
theorem partB_is (d : ByteArray) : partB d = headB.data.toList ++ (packS d).data.toList ++ leB (Gz.sum d) 4 ++ leB d.size 4 := rfl
theorem fileB_take (ds : List ByteArray) (i : Nat) (h : i < ds.length) : fileB (ds.take (i + 1)) = fileB (ds.take i) ++ partB ds[i] := by
  rw [List.take_succ_eq_append_getElem h]
  unfold fileB
  rw [List.flatMap_append, List.flatMap_cons, List.flatMap_nil, List.append_nil]
theorem fileB_len : ∀ (ds : List ByteArray), (∀ d ∈ ds, (partB d).length ≤ 4194304) → (fileB ds).length ≤ ds.length * 4194304
  | [], _ => Nat.zero_le _
  | d :: ds, h => by
    have h1 := h d (by simp)
    have h2 := fileB_len ds (fun x hx => h x (by simp [hx]))
    unfold fileB at h2 ⊢
    rw [List.flatMap_cons, List.length_append, List.length_cons]
    omega

set_option maxHeartbeats 8000000 in
set_option maxRecDepth 100000 in
theorem write_plain (b c : Nat) (ds : List ByteArray) (w : World) (hp : Pn w b ds) (hq : Quart w) (h1 : 1 ≤ ds.length) (h2 : ds.length ≤ 1024) (hd : ∀ d ∈ ds, d.size ≤ 1048576 ∧ (partB d).length ≤ 4194304) :
    Calls Tryz.prog 8 #[.slice (some ⟨b, 0, none⟩) ds.length c, .slice none 0 0] w fun e w' => e = .returned (.tuple #[.string ⟨(fileB ds).toArray⟩, .int .i64 0]) ∧ Touch (fun _ => False) w w' := by
  have HP := hid hp
  have HQ := hid hq
  have HD := hid hd
  clear hp hq hd
  have n0 : ¬ (ds.length : Int) = 0 := by omega
  have n0B : ((ds.length : Int) == 0) = false := by simpa using n0
  have n1 : ¬ 1024 < (ds.length : Int) := by omega
  go_enter Tryz.func8, Tryz.ntmps8
  go_wp2_with fail
  go_loopg [22] ds.length (fun gk v wr => ∃ i : Nat, i + gk = ds.length ∧ v = .int .i64 (i : Nat) ∧ Hid (Touch (fun _ => False) w wr))
  case atStart => exact ⟨0, by omega, rfl, hid (Touch.refl _ _)⟩
  case round =>
    obtain ⟨i, hi, rfl, HT⟩ := hrel
    by_cases hlt : i < ds.length
    · have hltI : (i : Int) < (ds.length : Int) := by omega
      obtain ⟨p0, p1, p2, p3, p4, p5, p6, p7, p8⟩ := (HP.out.new HT.out).2 i hlt
      obtain ⟨d, hde⟩ : ∃ d, d = ds[i] := ⟨_, rfl⟩
      rw [← hde] at p8
      clear hde
      have K := hid (fun w => check_plain d w)
      unfold plainC at K
      go_upto_region 6 with fail
      have TS := hid (HT.out.alloc (.cells (plainC d) 28))
      have BS := hid (new_block wr (plainC d) 28)
      obtain ⟨wA, hwA⟩ : ∃ wA, wA = wr.alloc (.cells (plainC d) 28) := ⟨_, rfl⟩
      obtain ⟨q, hqq⟩ : ∃ q, q = wr.heap.size := ⟨_, rfl⟩
      change Code.wp _ _ _ _ (wr.alloc (.cells (plainC d) 28))
      rw [← hwA] at TS BS ⊢
      rw [← hqq] at BS ⊢
      clear hwA hqq p0 p1 p2 p3 p4 p5 p6 p7 p8
      have hp := plain_at BS.out
      unfold PlainAt at hp
      obtain ⟨p0, p1, p2, p3, p4, p5, p6, p7, p8⟩ := hp
      go_wp2_with fail
      refine (K.out wA).mono ?_
      rintro e w5 ⟨rfl, t5⟩
      have T5 := hid (TS.out.trans t5 (fun _ _ e => e))
      clear t5 K
      go_wp2
      go_roundg (gk - 1)
      case measure => omega
      case rel => exact ⟨i + 1, by omega, by go_num, T5⟩
    · obtain rfl : i = ds.length := by omega
      have HT0 := hid HT.out
      have TB := hid (HT.out.alloc (.cells #[.pointer none, .slice none 0 0] 44))
      have HB := hid (Hd.new wr)
      have HLe := hid HT.out.size
      go_wp2_with fail
      generalize (wr.alloc (.cells #[.pointer none, .slice none 0 0] 44)) = w1 at *
      obtain ⟨B0, hB0⟩ : ∃ B0, B0 = wr.heap.size := ⟨_, rfl⟩
      rw [← hB0] at HB HLe ⊢
      clear hB0 HT HT0
      go_loopg [34] ds.length (fun gk v wr => ∃ i : Nat, i + gk = ds.length ∧ v = .int .i64 (i : Nat) ∧ Hid (Hd B0 B0 (fileB (ds.take i)) wr) ∧ Hid (Touch (fun _ => False) w wr))
      case atStart => exact ⟨0, by omega, rfl, HB, TB⟩
      case round =>
        clear HB TB
        obtain ⟨i, hi, rfl, HB, HT⟩ := hrel
        by_cases hlt : i < ds.length
        · have hltI : (i : Int) < (ds.length : Int) := by omega
          obtain ⟨p0, p1, p2, p3, p4, p5, p6, p7, p8⟩ := (HP.out.new HT.out).2 i hlt
          have HTK := hid (fileB_take ds i hlt)
          have hsz := HD.out ds[i] (List.getElem_mem _)
          have hfl : (fileB (ds.take i)).length ≤ 4294967296 :=
            Nat.le_trans (fileB_len (ds.take i) (fun d hd => (HD.out d (List.mem_of_mem_take hd)).2)) (Nat.le_trans (Nat.mul_le_mul_right 4194304 (show (ds.take i).length ≤ 1024 by rw [List.length_take]; omega)) (by decide))
          obtain ⟨d, hde⟩ : ∃ d, d = ds[i] := ⟨_, rfl⟩
          rw [← hde] at p8 HTK hsz
          clear hde
          obtain ⟨l, hl⟩ : ∃ l, l = fileB (ds.take i) := ⟨_, rfl⟩
          rw [← hl] at HTK hfl HB
          have hds := hsz.1
          have hps := hsz.2
          rw [partB_is, List.length_append, List.length_append, List.length_append, ba_len, ba_len] at hps
          clear hsz
          have hlb : ∀ n, (leB n 4).length = 4 := fun n => by simp [leB]
          rw [hlb, hlb, show headB.size = 10 from rfl] at hps
          have KH := hid (fun w => head_plain d w)
          unfold plainC at KH
          have KP := hid (fun w => pack_plain d (by omega) _ rfl w)
          go_upto_region 14 with fail
          have TS := hid (HT.out.alloc (.cells (plainC d) 28))
          have BS := hid (new_block wr (plainC d) 28)
          have HS := hid (HB.out.still ((Touch.refl _ wr).alloc (.cells (plainC d) 28)))
          obtain ⟨wA, hwA⟩ : ∃ wA, wA = wr.alloc (.cells (plainC d) 28) := ⟨_, rfl⟩
          obtain ⟨q, hqq⟩ : ∃ q, q = wr.heap.size := ⟨_, rfl⟩
          change Code.wp _ _ _ _ (wr.alloc (.cells (plainC d) 28))
          rw [← hwA] at TS BS HS ⊢
          rw [← hqq] at BS ⊢
          clear hwA hqq p0 p1 p2 p3 p4 p5 p6 p7 p8 HB HT
          have hp := plain_at BS.out
          unfold PlainAt at hp
          obtain ⟨p0, p1, p2, p3, p4, p5, p6, p7, p8⟩ := hp
          go_wp2_with fail
          refine (KH.out wA).mono ?_
          rintro e wB ⟨rfl, tB⟩
          have HwB := hid (HS.out.still tB)
          have TwB := hid (TS.out.trans tB (fun _ _ e => e))
          have BwB := hid (Keep28.of tB _ _ BS.out)
          clear tB KH p0 p1 p2 p3 p4 p5 p6 p7 p8 HS TS BS
          go_wp2_with fail
          refine (writeString_any B0 B0 _ headB wB HwB.out (by rw [show headB.size = 10 from rfl]; omega) HwB.out.le).mono ?_
          rintro e wC ⟨rfl, hdwC, blwC, kpwC⟩
          have HwC := hid hdwC
          have TwC := hid (TwB.out.down blwC HLe.out)
          have BwC := hid (kpwC _ _ BwB.out)
          clear hdwC blwC kpwC
          clear HwB TwB BwB
          have c8 : wC.cell? ⟨q, 8, none⟩ = some (.string d) := (plain_at BwC.out).2.2.2.2.2.2.2.2
          go_wp2_with fail
          refine (KP.out wC).mono ?_
          rintro e wD ⟨rfl, tD⟩
          change Touch (fun _ => False) wC wD at tD
          have HwD := hid (HwC.out.still tD)
          have TwD := hid (TwC.out.trans tD (fun _ _ e => e))
          have BwD := hid (Keep28.of tD _ _ BwC.out)
          clear tD KP c8 HwC TwC BwC
          have PKS := hid (show packS d = strOf (laidTo (spanN d (chunks true 0 d.size)) (chunks true 0 d.size).length (chunks true 0 d.size).length) from rfl)
          rw [← PKS.out]
          have HSZ := hid hps
          go_wp2_with fail
          refine (writeString_any B0 B0 _ (packS d) wD HwD.out (by rw [List.length_append, ba_len, show headB.size = 10 from rfl]; have := HSZ.out; omega) HwD.out.le).mono ?_
          rintro e wE ⟨rfl, hdwE, blwE, kpwE⟩
          have HwE := hid hdwE
          have TwE := hid (TwD.out.down blwE HLe.out)
          have BwE := hid (kpwE _ _ BwD.out)
          clear hdwE blwE kpwE
          clear HwD TwD BwD
          have c8 : wE.cell? ⟨q, 8, none⟩ = some (.string d) := (plain_at BwE.out).2.2.2.2.2.2.2.2
          have KS := hid (sum_any d (by omega) wE (HQ.out.new TwE.out id))
          have hsl := Gz.sum_lt d
          obtain ⟨m, hm⟩ : ∃ m, m = Gz.sum d := ⟨_, rfl⟩
          rw [← hm] at KS hsl
          have HM := hid hm
          clear hm
          go_wp2_with fail
          refine KS.out.mono ?_
          rintro e wF ⟨rfl, rfl⟩
          clear KS
          go_wp2_with fail
          refine (bytesOf_int _ _ ⟨by omega, by omega⟩ (by decide) wE).mono ?_
          rintro e wF ⟨rfl, tF⟩
          have HwF := hid (HwE.out.still tF)
          have TwF := hid (TwE.out.trans tF (fun _ _ e => e))
          have BwF := hid (Keep28.of tF _ _ BwE.out)
          clear tF c8 HwE TwE BwE
          go_wp2_with fail
          have hl4 : ∀ n, (⟨(leB n 4).toArray⟩ : ByteArray).size = 4 := fun n => by show (leB n 4).toArray.size = 4; simp [leB]
          have HL4 := hid hl4
          clear hl4
          refine (writeString_any B0 B0 _ ⟨(leB m 4).toArray⟩ wF HwF.out (by rw [List.length_append, List.length_append, ba_len, ba_len, HL4.out, show headB.size = 10 from rfl]; have := HSZ.out; omega) HwF.out.le).mono ?_
          rintro e wG ⟨rfl, hdwG, blwG, kpwG⟩
          have HwG := hid hdwG
          have TwG := hid (TwF.out.down blwG HLe.out)
          have BwG := hid (kpwG _ _ BwF.out)
          clear hdwG blwG kpwG
          clear HwF TwF BwF
          have c8 : wG.cell? ⟨q, 8, none⟩ = some (.string d) := (plain_at BwG.out).2.2.2.2.2.2.2.2
          go_wp2_with fail
          refine (bytesOf_int _ _ ⟨by omega, by omega⟩ (by decide) wG).mono ?_
          rintro e wH ⟨rfl, tH⟩
          have HwH := hid (HwG.out.still tH)
          have TwH := hid (TwG.out.trans tH (fun _ _ e => e))
          have BwH := hid (Keep28.of tH _ _ BwG.out)
          clear tH c8 HwG TwG BwG
          go_wp2_with fail
          refine (writeString_any B0 B0 _ ⟨(leB d.size 4).toArray⟩ wH HwH.out (by rw [List.length_append, List.length_append, List.length_append, ba_len, ba_len, show (leB m 4).length = 4 by simp [leB], HL4.out, show headB.size = 10 from rfl]; have := HSZ.out; omega) HwH.out.le).mono ?_
          rintro e wI ⟨rfl, hdwI, blwI, kpwI⟩
          have HwI := hid hdwI
          have TwI := hid (TwH.out.down blwI HLe.out)
          have BwI := hid (kpwI _ _ BwH.out)
          clear hdwI blwI kpwI
          clear HwH TwH BwH
          go_wp2
          go_roundg (gk - 1)
          case measure => omega
          case rel =>
            refine ⟨i + 1, by omega, by go_num, hid ?_, TwI⟩
            rw [HTK.out, partB_is]
            have := HwI.out
            rw [HM.out] at this
            simpa [List.append_assoc] using this
        · obtain rfl : i = ds.length := by omega
          rw [List.take_length] at HB
          have HNE := hid (show fileB ds ≠ [] by
            cases ds with
            | nil => simp at h1
            | cons d ds =>
              unfold fileB
              rw [List.flatMap_cons, partB_is]
              intro e
              have := congrArg List.length e
              simp [headB] at this)
          go_wp2_with fail
          refine (string_any B0 B0 _ wr HB.out HNE.out).mono ?_
          rintro e wZ ⟨rfl, bZ⟩
          have TZ := hid (HT.out.down bZ HLe.out)
          clear bZ
          go_wp2
          refine bodyPost_ret (results_tmp2 rfl _ _ _) rfl ?_
          exact ⟨rfl, TZ.out⟩
end Go.Proofs.YtffjkceedbblgaaGreatDoor

/- What Read tells of a plain part, plain: stored blocks are unpacked; no condition beside those told. -/
namespace Go.Proofs.YtffjkceedbblgaaGreatDoor
open Go.RowKit
open Go.Lib

theorem st_yes {s : ByteArray} {t n most : Nat} {out : List Nat} (h4 : (t + 10) / 8 + 4 + n ≤ s.size) (hn : Bt.byteN s ((t + 10) / 8) + 256 * Bt.byteN s ((t + 10) / 8 + 1) = n) (hn' : Bt.byteN s ((t + 10) / 8 + 2) + 256 * Bt.byteN s ((t + 10) / 8 + 3) = 65535 - n) (hm : out.length + n ≤ most) :
    Inf.st s most (t + 3) out = (0, 8 * ((t + 10) / 8 + 4 + n), out ++ (List.range n).map fun i => Bt.byteN s ((t + 10) / 8 + 4 + i)) := by
  unfold Inf.st
  dsimp only
  rw [show t + 3 + 7 = t + 10 by omega, hn, hn', if_neg (by omega), if_neg (by omega), if_neg (fun k => k rfl), if_neg (by omega), if_neg (by omega)]
theorem stream_un {s : ByteArray} {t tend : Nat} {bytes : List Nat} (h : Stream s t bytes tend) : ∀ (out : List Nat) (most : Nat), out.length + bytes.length ≤ most → Inf.Un s most t out 0 tend (out ++ bytes) := by
  induction h with
  | last t n h1 hb hk h4 hn hn' =>
    intro out most hm
    refine .last t out h1 (by omega) _ _ ?_
    rw [hk]
    exact .stored _ _ _ _ _ (st_yes h4 hn hn' (by simpa using hm))
  | more t n rest tend h1 hb hk h4 hn hn' hr ih =>
    intro out most hm
    rw [List.length_append, List.length_map, List.length_range] at hm
    refine .more t out h1 hb (8 * ((t + 10) / 8 + 4 + n)) (out ++ (List.range n).map fun i => Bt.byteN s ((t + 10) / 8 + 4 + i)) ?_ _ _ _ ?_
    · rw [hk]
      exact .stored _ _ _ _ _ (st_yes h4 hn hn' (by omega))
    · rw [← List.append_assoc]
      exact ih _ most (by rw [List.length_append, List.length_map, List.length_range]; omega)
/-- What is stored and too long for the bound. -/
theorem packS_size (d : ByteArray) : (packS d).size = d.size + 5 * max 1 ((d.size + 65534) / 65535) := (plain_bytes d _ rfl).1
theorem partB_len (d : ByteArray) (h : d.size ≤ 1048576) : (partB d).length ≤ 4194304 := by
  have := packS_size d
  rw [partB_is, List.length_append, List.length_append, List.length_append, ba_len, ba_len, show (leB (Gz.sum d) 4).length = 4 by simp [leB], show (leB d.size 4).length = 4 by simp [leB], show headB.size = 10 from rfl]
  omega
theorem nats_back (d : ByteArray) : strOf (Bt.strNats d) = d := by
  apply ByteArray.ext
  apply Array.ext
  · simp only [strOf, List.size_toArray, List.length_map, Bt.strNats, List.length_range]
    rfl
  · intro i h1 h2
    simp only [strOf, Bt.strNats, List.getElem_toArray, List.getElem_map, List.getElem_range]
    unfold Bt.byteN
    rw [Array.getD_eq_getD_getElem?, Array.getElem?_eq_getElem h2, Option.getD_some]
    exact UInt8.ofNat_toNat
theorem small_span (d : ByteArray) : Small (spanN d (chunks true 0 d.size)) (chunks true 0 d.size).length := by
  intro j hj
  have hm : (chunks true 0 d.size).getD j (0, 0) ∈ chunks true 0 d.size := by
    rw [List.getD_eq_getElem?_getD, List.getElem?_eq_getElem hj, Option.getD_some]
    exact List.getElem_mem _
  have hc := chunks_in d.size 0 d.size (by omega) (Nat.zero_le _) rfl _ hm
  unfold spanN
  constructor
  · simp only [Bt.strNats, List.length_map, List.length_range, ByteArray.size_extract]
    omega
  · intro x hx
    simp only [Bt.strNats, List.mem_map] at hx
    obtain ⟨i, _, rfl⟩ := hx
    exact Bt.byteN_lt _ _
theorem chunks_pos (n : Nat) : 0 < (chunks true 0 n).length := by
  rw [chunks_size]
  omega
/-- What Pack without choices hands back is unpacked to what it was. -/
theorem says_plain (d : ByteArray) (f most : Nat) (hm : d.size ≤ most) : Says (packS d) f most d (f + (packS d).size) 0 0 := by
  have hs := stream_all _ _ (small_span d) (chunks_pos d.size)
  rw [want_chunks d _ rfl] at hs
  have hl : (laidTo (spanN d (chunks true 0 d.size)) (chunks true 0 d.size).length (chunks true 0 d.size).length).length = (packS d).size := (size_strOf _).symm
  rw [hl] at hs
  have hn : (Bt.strNats d).length = d.size := by simp [Bt.strNats]
  have hu := stream_un hs [] most (by rw [hn, List.length_nil]; omega)
  rw [List.nil_append] at hu
  exact ⟨0, _, _, hu, Nat.le_refl _, .inl ⟨rfl, (nats_back d).symm, by omega, rfl, rfl⟩⟩
end Go.Proofs.YtffjkceedbblgaaGreatDoor

/- A plain part's file is read as this part, plain; condition: its data has less than 2^32 bytes. -/
namespace Go.Proofs.YtffjkceedbblgaaGreatDoor
open Go.RowKit
open Go.Lib
open Gz

/-- Four bytes of a number. -/
def le4 (n : Nat) : ByteArray := ⟨(leB n 4).toArray⟩
theorem le4_size (n : Nat) : (le4 n).size = 4 := by show (leB n 4).toArray.size = 4; simp [leB]
theorem le4_byte (n j : Nat) (h : j < 4) : Bt.byteN (le4 n) j = n / 2 ^ (8 * j) % 256 := by
  unfold Bt.byteN le4
  rw [Array.getD_eq_getD_getElem?]
  simp [leB, h]
theorem le4_num (n : Nat) (h : n < 2 ^ 32) : num (le4 n) 0 4 = n := by
  simp only [num, le4_byte n 0 (by omega), le4_byte n (0 + 1) (by omega), le4_byte n (0 + 1 + 1) (by omega), le4_byte n (0 + 1 + 1 + 1) (by omega)]
  simp only [Nat.zero_add, Nat.mul_zero, Nat.pow_zero, Nat.div_one, Nat.mul_one, show 8 * (1 + 1) = 16 from rfl, show 8 * (1 + 1 + 1) = 24 from rfl]
  omega
/-- The file of a plain part. -/
def oneF (d : ByteArray) : ByteArray := headB ++ (packS d ++ (le4 (sum d) ++ le4 d.size))
theorem oneF_is (d : ByteArray) : (⟨(partB d).toArray⟩ : ByteArray) = oneF d := by
  apply ByteArray.ext
  rw [partB_is]
  unfold oneF le4
  simp [ByteArray.data_append]
theorem oneF_size (d : ByteArray) : (oneF d).size = 18 + (packS d).size := by
  unfold oneF
  rw [ByteArray.size_append, ByteArray.size_append, ByteArray.size_append, le4_size, le4_size, show headB.size = 10 from rfl]
  omega
theorem one_pack (d : ByteArray) : Win (packS d) (oneF d) 10 := by
  refine ⟨by rw [oneF_size]; omega, fun i hi => ?_⟩
  unfold oneF
  have h1 := byteN_right headB (packS d ++ (le4 (sum d) ++ le4 d.size)) i (by rw [ByteArray.size_append]; omega)
  rw [show headB.size = 10 from rfl] at h1
  rw [h1]
  exact byteN_left _ _ _ hi
theorem one_sum (d : ByteArray) : Win (le4 (sum d)) (oneF d) (10 + (packS d).size) := by
  refine ⟨by rw [oneF_size, le4_size]; omega, fun i hi => ?_⟩
  rw [le4_size] at hi
  unfold oneF
  have h1 := byteN_right headB (packS d ++ (le4 (sum d) ++ le4 d.size)) ((packS d).size + i) (by rw [ByteArray.size_append, ByteArray.size_append, le4_size, le4_size]; omega)
  rw [show headB.size = 10 from rfl, ← Nat.add_assoc] at h1
  rw [h1, byteN_right _ _ _ (by rw [ByteArray.size_append, le4_size, le4_size]; omega)]
  exact byteN_left _ _ _ (by rw [le4_size]; exact hi)
theorem oneF_len (d : ByteArray) : Win (le4 d.size) (oneF d) (10 + (packS d).size + 4) := by
  refine ⟨by rw [oneF_size, le4_size]; omega, fun i hi => ?_⟩
  rw [le4_size] at hi
  unfold oneF
  have h1 := byteN_right headB (packS d ++ (le4 (sum d) ++ le4 d.size)) ((packS d).size + (4 + i)) (by rw [ByteArray.size_append, ByteArray.size_append, le4_size, le4_size]; omega)
  rw [show headB.size = 10 from rfl, show 10 + ((packS d).size + (4 + i)) = 10 + (packS d).size + 4 + i by omega] at h1
  rw [h1, byteN_right _ _ _ (by rw [ByteArray.size_append, le4_size, le4_size]; omega)]
  have h2 := byteN_right (le4 (sum d)) (le4 d.size) i (by rw [le4_size]; exact hi)
  rw [le4_size] at h2
  exact h2
theorem one_head (d : ByteArray) (j : Nat) (h : j < 10) : Bt.byteN (oneF d) j = Bt.byteN headB j := byteN_left _ _ _ h
def plainP (d : ByteArray) : Part := ⟨ByteArray.empty, ByteArray.empty, ByteArray.empty, false, false, 0, 0, 0, d⟩
theorem part_one (d : ByteArray) (most : Nat) (hm : d.size ≤ most) (hd : d.size < 2 ^ 32) : partR (oneF d) 0 most (.ok (plainP d, (oneF d).size)) := by
  have hs := oneF_size d
  have hh : headAt (oneF d) 0 = .ok 0 := by
    unfold headAt
    simp only [Nat.zero_add]
    rw [one_head d 0 (by omega), one_head d 1 (by omega), one_head d 2 (by omega), one_head d 3 (by omega), if_neg (by rw [show Bt.byteN headB 0 = 31 by decide, show Bt.byteN headB 1 = 139 by decide]; omega), if_neg (by omega), if_neg (by decide), if_neg (by decide)]
    rfl
  have ht : textsAt (oneF d) (0 + 10) 0 = .ok (ByteArray.empty, ByteArray.empty, ByteArray.empty, 10) := rfl
  have hu : sumAt (oneF d) 0 10 (0 / 2 % 2 == 1) = .ok 10 := rfl
  unfold partR
  rw [hh]
  dsimp only
  rw [ht]
  dsimp only
  rw [hu]
  dsimp only
  have hrest := (one_pack d).rest 0 (Nat.zero_le _)
  rw [Nat.add_zero, show (packS d).extract 0 (packS d).size = packS d from ByteArray.extract_zero_size] at hrest
  refine ⟨.ok (d, (oneF d).size), ⟨d, 10 + (packS d).size, 0, 0, ?_, hm, fun _ => ⟨by omega, by omega⟩, ?_⟩, ?_⟩
  · rw [hrest]
    exact says_more _ (says_plain d 10 most hm)
  · have e1 := (one_sum d).num 4 0 (by rw [le4_size]; omega)
    have e2 := (oneF_len d).num 4 0 (by rw [le4_size]; omega)
    rw [Nat.add_zero, le4_num _ (sum_lt d)] at e1
    rw [Nat.add_zero, le4_num _ hd] at e2
    rw [if_neg (by decide), if_neg (by omega), e1, e2, if_neg (fun k => k rfl), if_neg (fun k => k rfl), hs]
    congr 2
    omega
  · have n4 : num (oneF d) (0 + 4) 4 = 0 := by
      simp only [num, Nat.zero_add]
      rw [one_head d 4 (by omega), one_head d (4 + 1) (by omega), one_head d (4 + 1 + 1) (by omega), one_head d (4 + 1 + 1 + 1) (by omega)]
      decide
    dsimp only
    unfold partOf plainP
    rw [n4, one_head d (0 + 8) (by omega), one_head d (0 + 9) (by omega)]
    rfl
end Go.Proofs.YtffjkceedbblgaaGreatDoor
